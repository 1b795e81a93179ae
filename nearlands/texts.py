"""Texts of fractions, points and fields."""

from nearlands.errors import NoText
from nearlands.looker import is_field
from nearlands.points import fraction_of, point_of
from nearlands.whole import divisor

MOST_FIGURES = 1000


def show_fraction(fraction):
    """Tell the text of the fraction."""
    top, bottom = fraction
    return f"{top}" if bottom == 1 else f"{top}/{bottom}"


def show_point(point):
    """Tell the text of the point."""
    x, y, w = point
    return f"{show_fraction(fraction_of(x, w))} {show_fraction(fraction_of(y, w))}"


def show_field(field):
    """Tell the text of the field, whose edges may be called by names, too."""
    corners, edges = field
    return "; ".join([f"{show_point(corner)} {edge}" for corner, edge in zip(corners, edges)])


def is_number(text, most):
    """Tell whether the text is that of a whole number of at most so many figures."""
    figures = text.removeprefix("-")
    if len(figures) == 0 or len(figures) > most or not all("0" <= figure <= "9" for figure in figures):
        return False
    return text == "0" or figures[0] != "0"


def read_number(text):
    """Tell the whole number whose text this is."""
    if not is_number(text, MOST_FIGURES):
        raise NoText("this is no whole number's text")
    return int(text)


def read_fraction(text):
    """Tell the fraction whose text this is."""
    above, slash, below = text.partition("/")
    top = read_number(above)
    if slash == "":
        return (top, 1)
    bottom = read_number(below)
    if bottom < 2 or divisor(bottom, top) != 1:
        raise NoText("the bottom isn't above 1, or the fraction isn't in lowest terms")
    return (top, bottom)


def read_point(text):
    """Tell the point whose text this is."""
    return read_place(words_of(text, 2))


def read_field(text):
    """Tell the field whose text this is."""
    rows = [words_of(part, 3) for part in text.split("; ")]
    field = ([read_place(words[:2]) for words in rows], [read_number(words[2]) for words in rows])
    if not is_field(field):
        raise NoText("these corners and edges are no field")
    return field


def words_of(text, count):
    """Tell the words of a text that has so many of them."""
    words = text.split(" ")
    if len(words) != count:
        raise NoText("there are more words, or fewer")
    return words


def read_place(words):
    """Tell the point whose x and y these two words are."""
    x, w = read_fraction(words[0])
    y, v = read_fraction(words[1])
    return point_of(x * v, y * w, w * v)
