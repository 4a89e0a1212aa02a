"""The pattern of a text."""

from stitchroom.errors import NoPattern, NoStitch
from stitchroom.figures import figures_number
from stitchroom.marks import stitch
from stitchroom.patterns import Pattern
from stitchroom.sums import sum_text

MOST_SIGNS = 3000
MOST_FIGURES = 18
MOST_DEPTH = 8
SIZE_PLACES = {"a": 1, "b": 2, "c": 3, "d": 4}
WORD_ENDS = (" ", ",", ";", "[", "]", "(", ")")


class Cursor:
    """A place in a text, which moves on behind what is read."""

    def __init__(self, text):
        self.text = text
        self.place = 0

    def comes(self, signs):
        return self.text.startswith(signs, self.place)

    def skip(self, signs):
        """Moves on behind the signs where they come next; tells whether they do."""
        if not self.comes(signs):
            return False
        self.place += len(signs)
        return True

    def need(self, signs):
        if not self.skip(signs):
            raise NoPattern("the text is not that of a pattern")

    def word(self):
        """All signs up to the next one that ends a word, perhaps none."""
        start = self.place
        while not self.at_end() and self.text[self.place] not in WORD_ENDS:
            self.place += 1
        return self.text[start:self.place]

    def at_end(self):
        return self.place == len(self.text)


def read(text):
    """The pattern that has this text; refused with NoPattern where none has."""
    if not isinstance(text, str) or len(text) > MOST_SIGNS or depth_of(text) > MOST_DEPTH:
        raise NoPattern("this is no text of a pattern, or it is too long or too deep")
    cursor = Cursor(text)
    way = read_way(cursor)
    cursor.need("; cast ")
    cast = read_sum(cursor)
    cursor.need("; ")
    items = read_items(cursor, way)
    if not cursor.at_end():
        raise NoPattern("something stands behind the pattern")
    return Pattern(way, cast, items)


def depth_of(text):
    """How deep brackets of both kinds go within one another."""
    depth = 0
    most = 0
    for sign in text:
        if sign in ("[", "("):
            depth += 1
            most = max(most, depth)
        elif sign in ("]", ")"):
            depth -= 1
    return most


def read_way(cursor):
    way = cursor.word()
    if way not in ("flat", "round"):
        raise NoPattern("the way is neither flat nor round")
    return way


def read_items(cursor, way):
    items = [read_item(cursor, way)]
    while cursor.skip("; "):
        items.append(read_item(cursor, way))
    return items


def read_item(cursor, way):
    if cursor.skip("row "):
        return read_row(cursor, way)
    return read_block(cursor, way)


def read_block(cursor, way):
    often = read_sum(cursor)
    if often[0] == 0:
        raise NoPattern("a block is perhaps not worked at all")
    cursor.need(" times (")
    items = read_items(cursor, way)
    cursor.need(")")
    return ("block", often, items)


def read_row(cursor, way):
    parts = parts_up_to_rest(cursor)
    if cursor.skip("rest ["):
        rest = read_parts(cursor)
        cursor.need("]")
        more = read_parts(cursor) if cursor.skip(", ") else []
        return ("row", parts, False, rest, more)
    turn = cursor.skip(" turn")
    if turn and way == "round":
        raise NoPattern("a row of a round pattern is turned")
    return ("row", parts, turn)


def parts_up_to_rest(cursor):
    """The parts of a row, up to its end or to its rest, which comes next then."""
    parts = []
    while not cursor.comes("rest ["):
        parts.append(read_part(cursor))
        if not cursor.skip(", "):
            break
    return parts


def read_parts(cursor):
    parts = [read_part(cursor)]
    while cursor.skip(", "):
        parts.append(read_part(cursor))
    return parts


def read_part(cursor):
    if cursor.skip("["):
        parts = read_parts(cursor)
        cursor.need("] ")
        return ("times", read_sum(cursor), parts)
    return ("one", read_stitch(cursor))


def read_stitch(cursor):
    mark = cursor.word()
    try:
        return stitch(mark)
    except NoStitch:
        raise NoPattern("a part is neither a stitch nor a repeat") from None


def read_sum(cursor):
    return sum_of_text(cursor.word())


# Terms out of order, told twice and of 0 all give a sum that has another text.
def sum_of_text(text):
    """The sum that has this text; refused with NoPattern where none has."""
    numbers = [0, 0, 0, 0, 0]
    for term in text.split("+"):
        size = term[-1:]
        if term in SIZE_PLACES:
            numbers[SIZE_PLACES[term]] += 1
        elif size in SIZE_PLACES:
            numbers[SIZE_PLACES[size]] += number_of_text(term[:-1])
        else:
            numbers[0] += number_of_text(term)
    told = tuple(numbers)
    if sum_text(told) != text:
        raise NoPattern("the text is not that of a sum")
    return told


def number_of_text(text):
    """The number that is written by one to eighteen figures; refused with NoPattern where it is none."""
    number = figures_number(text, MOST_FIGURES)
    if number is None:
        raise NoPattern("the text is not that of a number")
    return number
