"""The desk, which keeps patterns by names and answers rows of text about them and their cloths."""

from stitchroom.errors import NoName, NoPlace, NoRow, TooMany
from stitchroom.figures import figures_number
from stitchroom.holds import undone
from stitchroom.looker import look
from stitchroom.needles import Needles, knitted
from stitchroom.prices import shortest
from stitchroom.reader import read
from stitchroom.rows import rows_at
from stitchroom.sums import SIZES, sum_text, worth
from stitchroom.turns import front_of
from stitchroom.writer import parts_text, shown

LETTERS = "abcdefghijklmnopqrstuvwxyz"
MOST_LETTERS = 8
MOST_FIGURES = 9
MOST_TOLD = 60
DONE = "ok"
NO_STITCHES = "-"
# Behind each first word but new: how many names, how many numbers, and whether there may be more numbers.
FORMS = {
    "drop": (1, 0, False),
    "text": (1, 0, False),
    "counts": (1, 0, False),
    "loops": (1, 4, False),
    "row": (1, 5, False),
    "same": (2, 4, False),
    "fall": (1, 6, True),
}


class Desk:
    """Patterns that were let by, kept by their names."""

    def __init__(self):
        self.patterns = {}

    def say(self, row):
        """The answer to a row of text; refused with NoRow, then with NoName, then as the stages refuse."""
        words = words_of(row)
        if words[0] == "new":
            return self.keep_new(words[1], words[2])
        behind_names = 1 + FORMS[words[0]][0]
        patterns = [self.kept_by(name) for name in words[1:behind_names]]
        numbers = [figures_number(word, MOST_FIGURES) for word in words[behind_names:]]
        if words[0] == "drop":
            self.patterns.pop(words[1])
            return DONE
        return answer(words[0], patterns, numbers)

    def keep_new(self, name, text):
        pattern = read(text)
        look(pattern)
        self.patterns[name] = pattern
        return DONE

    def kept_by(self, name):
        if name not in self.patterns:
            raise NoName("no pattern is kept by this name")
        return self.patterns[name]


def words_of(row):
    """The words of a row, the text of a new one as one word; refused with NoRow where it is no row of the desk."""
    if not isinstance(row, str):
        raise NoRow("this is no text")
    words = row.split(" ", 2) if row.startswith("new ") else row.split(" ")
    if not is_row(words):
        raise NoRow("the desk has no such row")
    return words


def is_row(words):
    if words[0] == "new":
        return len(words) == 3 and is_name(words[1])
    if words[0] not in FORMS:
        return False
    form = FORMS[words[0]]
    names = words[1:1 + form[0]]
    numbers = words[1 + form[0]:]
    fits = len(numbers) == form[1] or (form[2] and len(numbers) > form[1])
    named = len(names) == form[0] and all([is_name(word) for word in names])
    return fits and named and all([is_number(word) for word in numbers])


def is_name(word):
    return 1 <= len(word) <= MOST_LETTERS and all([sign in LETTERS for sign in word])


def is_number(word):
    return figures_number(word, MOST_FIGURES) is not None


def answer(word, patterns, numbers):
    """The answer to a row that asks for patterns, the numbers of a choice first among the numbers."""
    pattern = patterns[0]
    choice = numbers[:len(SIZES)]
    more = numbers[len(SIZES):]
    if word == "text":
        return shown(pattern)
    if word == "counts":
        return " ".join([sum_text(step[1]) for step in look(pattern)])
    if word == "loops":
        return loops_text(knitted(pattern, choice))
    if word == "row":
        return row_text(pattern, choice, more[0])
    if word == "same":
        return "yes" if knitted(pattern, choice) == knitted(patterns[1], choice) else "no"
    return fallen_text(pattern, choice, more[0], more[1:])


def loops_text(web):
    """How many loops a web has, how many are kept and how many cast off."""
    loops = sum([len(row) for row in web[0]])
    kept = sum([len(names) for keeper, names in web[2]])
    off = len(web[3])
    return f"{loops} {kept} {off}"


def row_text(pattern, choice, number):
    """A shortest telling of the row with this number, counted from 1, as it is told from the front."""
    rows = rows_at(pattern, choice)
    if not 1 <= number <= len(rows):
        raise NoPlace("there is no such row")
    stitches = front_row_of(pattern, choice, rows[:number])
    if len(stitches) > MOST_TOLD:
        raise TooMany("the row has too many stitches to be told")
    return parts_text(shortest(stitches)) if stitches else NO_STITCHES


def front_row_of(pattern, choice, rows):
    """The last of these rows, the first ones of the pattern at a choice, as it is told from the front."""
    if pattern.way == "round":
        return rows[-1][1]
    return front_of(worth(pattern.cast, choice), [(stitches, turn) for number, stitches, turn in rows])[-1]


def fallen_text(pattern, choice, many, places):
    """What comes undone where so many rows are worked and the loops that lie at these places are let fall."""
    rows = rows_at(pattern, choice)
    if many > len(rows):
        raise NoPlace("there are fewer rows")
    needles = Needles(pattern.way, worth(pattern.cast, choice))
    for number, stitches, turn in rows[:many]:
        needles.work(stitches, turn)
    web = needles.web()
    if max(places) >= len(web[1]):
        raise NoPlace("no loop lies at this place")
    fallen = undone(web, [web[1][place] for place in places])
    return " ".join([f"{row}.{place}" for row, place in fallen])
