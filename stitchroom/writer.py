"""The text of a pattern and of its parts."""

from stitchroom.sums import sum_text


def shown(pattern):
    """The pattern as text."""
    return "; ".join([pattern.way, "cast " + sum_text(pattern.cast)] + item_texts(pattern.things))


def parts_text(parts):
    """The parts as text, one behind the other."""
    return ", ".join(part_texts(parts))


def item_texts(items):
    return [row_text(item) if item[0] == "row" else block_text(item) for item in items]


def block_text(block):
    return sum_text(block[1]) + " times (" + "; ".join(item_texts(block[2])) + ")"


def row_text(row):
    texts = part_texts(row[1])
    if len(row) > 3:
        texts = texts + ["rest [" + parts_text(row[3]) + "]"] + part_texts(row[4])
    ending = " turn" if row[2] else ""
    return "row " + ", ".join(texts) + ending


def part_texts(parts):
    return [part_text(part) for part in parts]


def part_text(part):
    if part[0] == "one":
        return part[1].mark()
    return "[" + parts_text(part[2]) + "] " + sum_text(part[1])
