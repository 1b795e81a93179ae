"""The desk: it keeps a chart, is told lines, and answers each with a text."""

from nearlands.charts import Chart
from nearlands.errors import NoRow, Unknown
from nearlands.far import least_ring
from nearlands.fields import area
from nearlands.meetings import emptiest
from nearlands.points import nearest_of, spot_point
from nearlands.takes import takes
from nearlands.texts import is_number, show_field, show_fraction, show_point
from nearlands.trees import least_tree, step_square
from nearlands.webs import ties

MOST_FIGURES = 30
NOTHING = "-"

# What stands behind the first word of each line: n is a name, w a whole number.
FORMS = {
    "box": "wwww",
    "put": "nww",
    "move": "nww",
    "go": "n",
    "back": "",
    "land": "n",
    "area": "n",
    "spots": "",
    "near": "ww",
    "take": "ww",
    "ties": "",
    "empty": "",
    "ring": "",
    "tree": "",
}


def read_line(line):
    """Tell the first word of a line and the list of the names and numbers behind it."""
    first, *others = line.split(" ")
    if first not in FORMS or len(others) != len(FORMS[first]):
        raise NoRow("there is no line of this first word and so many words")
    return first, [read_word(word, kind) for word, kind in zip(others, FORMS[first])]


def read_word(word, kind):
    """Tell the name or the number that the word is."""
    if kind == "n":
        if word == "":
            raise NoRow("a name has one sign or more")
        return word
    if not is_number(word, MOST_FIGURES):
        raise NoRow("this is no whole number of at most thirty figures")
    return int(word)


def show_names(names):
    """Tell the text of names."""
    return " ".join(names) or NOTHING


def show_rows(rows):
    """Tell the text of rows that are texts."""
    return "; ".join(rows) or NOTHING


def in_order(chart):
    """Tell the names of all spots in their order, and the spots; refuse where there are none."""
    places = chart.spots()
    if len(places) == 0:
        raise Unknown("there is no spot")
    names = sorted(places)
    return names, [places[name] for name in names]


def say_put(chart, name, x, y):
    """Put a spot there."""
    return show_names(chart.put(name, (x, y)))


def say_move(chart, name, dx, dy):
    """Move a spot."""
    return show_names(chart.move(name, dx, dy))


def say_go(chart, name):
    """Let a spot go."""
    return show_names(chart.go(name))


def say_back(chart):
    """Take back the last deed."""
    return show_names(chart.back())


def say_land(chart, name):
    """Tell a land."""
    return show_field(chart.land(name))


def say_area(chart, name):
    """Tell the area of a land."""
    return show_fraction(area(chart.land(name)))


def say_spots(chart):
    """Tell all spots."""
    places = chart.spots()
    return show_rows([f"{name} {places[name][0]} {places[name][1]}" for name in sorted(places)])


def say_near(chart, x, y):
    """Tell the nearest spots of a point."""
    names, spots = in_order(chart)
    return show_names([names[number] for number in nearest_of(spots, spot_point((x, y)))])


def say_take(chart, x, y):
    """Tell what a spot more takes."""
    names, spots = in_order(chart)
    rows = takes(chart.box(), spots, (x, y))
    return show_rows([f"{names[number]} {show_fraction(part)}" for number, part in rows])


def say_ties(chart):
    """Tell who is tied to whom."""
    names, spots = in_order(chart)
    return show_rows([f"{names[one]} {names[other]}" for one, other in ties(spots)])


def say_empty(chart):
    """Tell where the box is emptiest."""
    way, points = emptiest(chart.box(), in_order(chart)[1])
    return show_rows([show_fraction(way)] + [show_point(point) for point in points])


def say_ring(chart):
    """Tell the least ring."""
    centre, way, on = least_ring(in_order(chart)[1])
    return f"{show_point(centre)} {show_fraction(way)}"


def say_tree(chart):
    """Tell the square of the greatest step of the least tree."""
    spots = in_order(chart)[1]
    greatest = max([step_square(spots, one, other) for one, other in least_tree(spots)], default=0)
    return f"{greatest}"


# How each line but that of a new box is answered, of the chart and what stands behind the first word.
ANSWERS = {
    "put": say_put,
    "move": say_move,
    "go": say_go,
    "back": say_back,
    "land": say_land,
    "area": say_area,
    "spots": say_spots,
    "near": say_near,
    "take": say_take,
    "ties": say_ties,
    "empty": say_empty,
    "ring": say_ring,
    "tree": say_tree,
}


class Desk:
    """A desk with its chart."""

    def __init__(self):
        self.chart = Chart((0, 0, 1, 1))

    def say(self, line):
        """Answer a line."""
        first, values = read_line(line)
        if first == "box":
            self.chart = Chart(tuple(values))
            return NOTHING
        answer = ANSWERS[first]
        return answer(self.chart, *values)
