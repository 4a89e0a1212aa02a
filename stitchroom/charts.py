"""Charts: rows of stitches told from the front as a list of texts, and read back."""

from stitchroom.errors import NoChart, NoStitch
from stitchroom.figures import figures_number
from stitchroom.marks import stitch

CAST = "cast "
NO_STITCHES = "-"
MOST_FIGURES = 9


def chart(cast, rows):
    """The texts of the rows, the last row first, and at the end that of the number of loops cast on."""
    texts = [row_text(row) for row in rows]
    texts.reverse()
    return texts + [CAST + str(cast)]


def read_chart(chart):
    """The number of loops cast on and the list of the rows; refused with NoChart where it is no chart."""
    if not isinstance(chart, list) or not chart or not all([isinstance(text, str) for text in chart]):
        raise NoChart("this is no list of texts")
    number = cast_of_text(chart[-1])
    rows = [row_of_text(text) for text in chart[:-1]]
    rows.reverse()
    return (number, rows)


def row_text(row):
    marks = [each.mark() for each in row]
    marks.reverse()
    return " ".join(marks) if marks else NO_STITCHES


def row_of_text(text):
    row = [] if text == NO_STITCHES else [stitch_of_mark(mark) for mark in text.split(" ")]
    row.reverse()
    return row


def stitch_of_mark(mark):
    try:
        return stitch(mark)
    except NoStitch:
        raise NoChart("a sign of the chart is the mark of no stitch") from None


def cast_of_text(text):
    number = figures_number(text[len(CAST):], MOST_FIGURES) if text.startswith(CAST) else None
    if number is None:
        raise NoChart("the last text does not tell how many loops are cast on")
    return number
