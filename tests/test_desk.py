"""[31], [12] to [16], [21], [26], [29], [2], [3]: the desk, its lines, its answers and its refusals."""

import unittest

from nearlands.charts import Chart
from nearlands.desk import Desk
from nearlands.errors import LandError, NoBox, NoDeed, NoName, NoRow, NoSpot, Taken, TooMany, Unknown
from nearlands.far import least_ring
from nearlands.fields import area
from nearlands.meetings import emptiest
from nearlands.takes import takes
from nearlands.texts import show_field, show_fraction, show_point
from nearlands.trees import least_tree
from nearlands.webs import ties
from tests.helper import RING, big, big_26, check_refused, nearest_spots, small

NAMES = ["a", "b", "ab", "zz", "q", "abcdefgh", "y", "aa", "hgfedcba", "n", "mm", "c"]
THIRTY = "9" * 30
LINES_OF_ALL = ("near 1 1", "take 1 1", "ties", "empty", "ring", "tree")

# Words that are no whole number of at most thirty figures.
NO_NUMBERS = (
    "", "-", "+", "+1", "01", "-01", "00", "-0", "--1", "1-", "a", "1a", "1.0", "1/2", "1;", "1_0", "\u0661", "\u00b2",
    "1\n", "\t1", "9" * 31, "-" + "9" * 31, "1" + "0" * 30, "0" * 30, "0" * 31, "9" * 1001, "9" * 30000, "None",
)


def desk_of(*lines):
    desk = Desk()
    for line in lines:
        desk.say(line)
    return desk


def told(desk, line):
    """Tell what a desk answers, or the class and the field of what it refuses with."""
    try:
        return desk.say(line)
    except LandError as refusal:
        return type(refusal), getattr(refusal, "at", None)


def state(desk):
    """Tell all that can be seen of a desk without a deed."""
    names = [row.split(" ")[0] for row in desk.say("spots").split("; ") if row != "-"]
    lines = ["spots", *["land " + name for name in names], *LINES_OF_ALL]
    return [told(desk, line) for line in lines]


def deeds_left(desk):
    """Tell what is told as all deeds are taken back."""
    answers = []
    while True:
        answers.append(told(desk, "back"))
        if answers[-1] == (NoDeed, None):
            return answers


class DeskTest(unittest.TestCase):
    def check(self, desk, line, answer):
        got = desk.say(line)
        self.assertIs(type(got), str)
        self.assertEqual(got, answer, line)

    def refused(self, desk, kind, line, at=None):
        """Fail unless the line is refused so, and the desk stays as it was."""
        earlier = state(desk)
        check_refused(self, kind, lambda: desk.say(line), at)
        self.assertEqual(state(desk), earlier)


class DeedsTest(DeskTest):
    def test_a_new_desk(self):
        desk = Desk()
        self.check(desk, "spots", "-")
        self.refused(desk, NoDeed, "back")
        self.check(desk, "put a 0 0", "-")
        self.refused(desk, NoSpot, "put b 2 0")
        self.check(desk, "put b 1 1", "a")
        self.check(desk, "land a", "0 0 -1; 1 0 b; 0 1 -4")
        self.check(desk, "area b", "1/2")

    def test_box(self):
        desk = Desk()
        self.check(desk, "box 0 0 8 2", "-")
        self.check(desk, "put a 8 2", "-")
        self.check(desk, "land a", "0 0 -1; 8 0 -2; 8 2 -3; 0 2 -4")
        self.check(desk, "box -5 -7 -1 0", "-")
        self.check(desk, "spots", "-")
        self.refused(desk, NoDeed, "back")
        self.refused(desk, NoSpot, "put a 0 0")
        self.check(desk, "put a -1 0", "-")
        self.check(desk, "area a", "28")

    def test_no_box(self):
        desk = desk_of("box 0 0 8 2", "put a 1 1", "put b 7 1")
        for line in ("box 0 0 0 2", "box 0 0 8 0", "box 8 0 0 2", "box 0 2 8 0", "box 1 1 1 1",
                     f"box {big_26(1)} 0 -{big_26(1)} 1", f"box 0 0 0 {THIRTY}"):
            self.refused(desk, NoBox, line)
        self.assertEqual(deeds_left(desk), ["a", "-", (NoDeed, None)])

    def test_put_move_go_back(self):
        desk = desk_of("box 0 0 8 2")
        self.check(desk, "put c 1 1", "-")
        self.check(desk, "put b 7 1", "c")
        self.check(desk, "put a 8 1", "b")
        self.check(desk, "put d 4 1", "b c")
        self.check(desk, "spots", "a 8 1; b 7 1; c 1 1; d 4 1")
        self.check(desk, "move d 1 0", "b c")
        self.check(desk, "move d 0 0", "-")
        self.check(desk, "back", "-")
        self.check(desk, "spots", "a 8 1; b 7 1; c 1 1; d 5 1")
        self.check(desk, "move d -2 -1", "b c")
        self.check(desk, "spots", "a 8 1; b 7 1; c 1 1; d 3 0")
        self.check(desk, "go b", "a d")
        self.check(desk, "back", "a d")
        self.check(desk, "spots", "a 8 1; b 7 1; c 1 1; d 3 0")
        self.check(desk, "back", "b c")
        self.check(desk, "back", "b c")
        self.check(desk, "back", "b c")
        self.check(desk, "back", "b")
        self.check(desk, "back", "c")
        self.check(desk, "spots", "c 1 1")
        self.check(desk, "go c", "-")
        self.check(desk, "back", "-")
        self.check(desk, "back", "-")
        self.check(desk, "spots", "-")
        self.refused(desk, NoDeed, "back")

    def test_names_told_stand_in_pythons_order(self):
        desk = desk_of("box -5 -5 5 5")
        for name, (x, y) in zip(NAMES, RING[:11]):
            desk.say(f"put {name} {x} {y}")
        self.check(desk, "put c 0 0", " ".join(sorted(NAMES[:11])))
        self.check(desk, "go c", " ".join(sorted(NAMES[:11])))

    def test_refused_deeds(self):
        desk = desk_of("box 0 0 10 8", "put a 1 1", "put b 5 5", "move b 1 0")
        for name in ("A", "aB", "a1", "abcdefghi", "1", "-1", "a-b", "a;b", "~", "a\n", "\t", "\u00e9", "x" * 30000,
                     "-", "0", "A" * 9):
            for line in (f"put {name} 2 2", f"put {name} 99 99", f"put {name} 1 1", f"move {name} 1 1",
                         f"move {name} 99 99", f"go {name}", f"land {name}", f"area {name}"):
                self.refused(desk, NoName, line)
        for line in ("put a 2 2", "put a 1 1", "put b 99 99", "put a 6 5"):
            self.refused(desk, Taken, line)
        for line in ("move c 1 1", "move c 99 99", "go c", "go aa", "land c", "area c", "land zzzzzzzz"):
            self.refused(desk, Unknown, line)
        for line in ("put c 11 1", "put c -1 1", "put c 1 9", "put c 1 -1", "put c 1 1", "put c 6 5", "move a -2 0",
                     "move a 0 8", "move a 5 4", f"put c {big_26(1)} 0", f"move a {big_26(1)} 0", "move b -5 -4"):
            self.refused(desk, NoSpot, line)
        self.assertEqual(deeds_left(desk), ["a", "a", "-", (NoDeed, None)])

    def test_a_thirteenth_spot(self):
        desk = desk_of("box 0 0 10 8", *[f"put {name} {k % 10} {k // 10}" for k, name in enumerate(NAMES)])
        self.refused(desk, TooMany, "put new 9 7")
        self.refused(desk, TooMany, "put new 99 99")
        self.refused(desk, TooMany, "put new 0 0")
        self.refused(desk, Taken, "put a 9 7")
        self.refused(desk, NoName, "put New 9 7")
        self.refused(desk, TooMany, "take 9 7")
        self.refused(desk, TooMany, "take 99 99")
        self.refused(desk, TooMany, "take 0 0")
        earlier = state(desk)
        desk.say("move a 9 7")
        self.assertIn("a 9 7", desk.say("spots"))
        desk.say("back")
        self.assertEqual(state(desk), earlier)
        desk.say("go a")
        self.refused(desk, NoSpot, "take 99 99", 11)
        desk.say("put new 9 7")
        self.refused(desk, TooMany, "put a 0 0")


class AnswersTest(DeskTest):
    def setUp(self):
        self.desk = desk_of("box 0 0 8 2", "put right 7 1", "put left 1 1", "put amid 4 1")

    def test_land_and_area(self):
        self.check(self.desk, "land amid", "5/2 0 -1; 11/2 0 right; 11/2 2 -3; 5/2 2 left")
        self.check(self.desk, "land left", "0 0 -1; 5/2 0 amid; 5/2 2 -3; 0 2 -4")
        self.check(self.desk, "area amid", "6")
        self.check(self.desk, "area left", "5")
        self.desk.say("move amid 0 1")
        self.check(self.desk, "area amid", "16/3")
        self.desk.say("go right")
        self.check(self.desk, "land left", "0 0 -1; 3 0 amid; 7/3 2 -3; 0 2 -4")
        self.check(self.desk, "area left", "16/3")

    def test_spots(self):
        self.check(self.desk, "spots", "amid 4 1; left 1 1; right 7 1")
        desk = desk_of("box -9 -9 9 9", "put b -3 1", "put a 0 -9", "put ab 5 5")
        self.check(desk, "spots", "a 0 -9; ab 5 5; b -3 1")
        self.check(desk_of("put a 0 1"), "spots", "a 0 1")
        self.check(Desk(), "spots", "-")

    def test_near(self):
        self.check(self.desk, "near 4 1", "amid")
        self.check(self.desk, "near 0 0", "left")
        self.check(self.desk, "near 99 -99", "right")
        self.check(self.desk, f"near -{big_26(1)} {big_26(2)}", "left")
        desk = desk_of("box 0 0 4 4", "put d 0 0", "put b 4 0", "put c 4 4", "put a 0 4")
        self.check(desk, "near 2 2", "a b c d")
        self.check(desk, "near 2 -7", "b d")
        self.check(desk, "near 9 2", "b c")
        self.check(desk, "near 0 0", "d")

    def test_take(self):
        self.check(self.desk, "take 4 2", "amid 3/2; left 1/24; right 1/24")
        self.check(self.desk, "take 8 1", "right 1")
        self.check(desk_of("box 0 0 8 2", "put b 7 1", "put a 1 1"), "take 4 1", "a 3; b 3")
        for line in ("take 9 1", "take -1 1", "take 4 3", "take 4 -1", "take 4 1", "take 7 1", f"take {big_26(1)} 0"):
            self.refused(self.desk, NoSpot, line, 3)
        one = desk_of("box 0 0 8 2", "put a 1 1")
        self.refused(one, NoSpot, "take 1 1", 1)
        self.refused(one, NoSpot, "take 9 9", 1)
        self.check(one, "take 7 1", "a 8")

    def test_ties(self):
        self.check(self.desk, "ties", "amid left; amid right")
        self.check(desk_of("put a 0 0"), "ties", "-")
        self.check(desk_of("put b 0 0", "put a 1 1"), "ties", "a b")
        desk = desk_of("box 0 0 4 4", "put d 0 0", "put b 4 0", "put c 4 4", "put a 0 4")
        self.check(desk, "ties", "a c; a d; b c; b d")
        self.check(desk, "put m 2 2", "a b c d")
        self.check(desk, "ties", "a c; a d; a m; b c; b d; b m; c m; d m")

    def test_empty(self):
        self.check(self.desk, "empty", "13/4; 5/2 0; 5/2 2; 11/2 0; 11/2 2")
        self.check(desk_of("box 0 0 4 4", "put a 2 0"), "empty", "20; 0 4; 4 4")
        self.check(desk_of("put a 0 0"), "empty", "2; 1 1")

    def test_ring(self):
        self.check(self.desk, "ring", "4 1 9")
        self.check(desk_of("put a 0 1"), "ring", "0 1 0")
        self.check(desk_of("put a 0 0", "put b 1 0"), "ring", "1/2 0 1/4")
        self.check(desk_of("box 0 0 4 4", "put a 0 0", "put b 4 0", "put c 2 4"), "ring", "2 3/2 25/4")

    def test_tree(self):
        self.check(self.desk, "tree", "9")
        self.check(desk_of("put a 0 1"), "tree", "0")
        self.check(desk_of("put a 0 0", "put b 1 1"), "tree", "2")
        self.check(desk_of("box 0 0 9 9", "put a 0 0", "put b 1 1", "put c 8 9", "put d 7 9"), "tree", "100")

    def test_no_spot(self):
        for desk in (Desk(), desk_of("box 0 0 4 4"), desk_of("put a 0 0", "go a"), desk_of("put a 0 0", "back"),
                     desk_of("put a 0 0", "box 0 0 4 4")):
            for line in LINES_OF_ALL + ("near 99 99", "take 99 99", f"near {THIRTY} {THIRTY}", "near -1 0"):
                self.refused(desk, Unknown, line)
            # Words go first.
            for line in ("near 1", "take 1 x", "ties a", "empty ", "ring 1", "tree 1 1", "near 1 -0", "take  1 1"):
                self.refused(desk, NoRow, line)
            for line in ("land a", "area a", "go a", "move a 1 1"):
                self.refused(desk, Unknown, line)
            for line in ("land A", "area 1", "go -", "move A 1 1"):
                self.refused(desk, NoName, line)
            self.check(desk, "spots", "-")


class RowsTest(DeskTest):
    ROWS = ("box 0 0 8 2", "put c 4 1", "move a 1 0", "go a", "back", "land a", "area a", "spots") + LINES_OF_ALL

    def setUp(self):
        self.desk = desk_of("box 0 0 8 2", "put a 1 1", "put b 7 1")

    def no(self, line):
        self.refused(self.desk, NoRow, line)

    def test_blanks(self):
        for row in self.ROWS:
            for line in (" " + row, row + " ", "  " + row, row + "  ", row.replace(" ", "  ", 1) + " ", "\n" + row):
                self.no(line)
            for sign in "\n\t\r":
                # Behind a name such a sign belongs to it.
                self.refused(self.desk, NoName if row in ("go a", "land a", "area a") else NoRow, row + sign)
            for at, sign in enumerate(row):
                if sign == " ":
                    self.no(row[:at] + " " + row[at:])
                    self.no(row[:at] + "\t" + row[at + 1:])
                    self.no(row[:at] + row[at + 1:])

    def test_first_words(self):
        for line in ("", " ", "  ", "-", "a", "PUT c 4 1", "Put c 4 1", "puts c 4 1", "pu c 4 1", "lands a", "tie",
                     "spot", "tiess", "box", "undo", "help", "0", "1 1", "\n", "quit", "say", "put\n c 4 1",
                     "box0 0 8 2", "spots;", "nearest 1 1", "rings", "trees", "kept", "n", "ww", "nww", "\u00a0",
                     "x" * 36000, " " * 36000):
            self.no(line)

    def test_count_of_words(self):
        for row in self.ROWS:
            self.no(row + " 1")
            self.no(row + " a")
            self.no(row + " 1 1 1 1 1")
            if " " in row:
                self.no(row.rpartition(" ")[0])
                self.no(row.partition(" ")[0])

    def test_numbers(self):
        for word in NO_NUMBERS:
            with self.subTest(word[:40]):
                for line in (f"box {word} 0 8 2", f"box 0 {word} 8 2", f"box 0 0 {word} 2", f"box 0 0 8 {word}",
                             f"put c {word} 1", f"put c 4 {word}", f"move a {word} 1", f"move a 1 {word}",
                             f"near {word} 1", f"near 1 {word}", f"take {word} 1", f"take 1 {word}",
                             f"put A {word} 1", f"put a 1 {word}", f"move zz 1 {word}", f"box 8 8 0 {word}"):
                    self.no(line)

    def test_thirty_figures(self):
        for word in (THIRTY, "-" + THIRTY, "1" + "0" * 29, str(big(1))):
            for line in (f"put c {word} 1", f"put c 4 {word}", f"move a {word} 1", f"move a 0 {word}"):
                self.refused(self.desk, NoSpot, line)
            self.refused(self.desk, NoSpot, f"take {word} 1", 2)
            self.assertIn(told(self.desk, f"near {word} 1"), ("a", "b"))
        desk = Desk()
        self.check(desk, f"box -{THIRTY} -{THIRTY} {THIRTY} {THIRTY}", "-")
        self.check(desk, f"put a {THIRTY} -{THIRTY}", "-")
        self.check(desk, f"put b -{THIRTY} 1", "a")
        self.check(desk, f"put c {big(1)} {big(2)}", "a b")
        for line in LINES_OF_ALL + ("land a", "area c"):
            self.assertIs(type(desk.say(line)), str)

    def test_names(self):
        # Any word of one sign or more is taken for a name; one without signs isn't.
        for line in ("put  4 1", "move  1 0", "go ", "land ", "area "):
            self.no(line)
        for word in ("A", "1", "-", ";", "a;", "\t", "abcdefghi", "-0", "+", "\u0661", "x" * 3000):
            for line in (f"put {word} 4 1", f"move {word} 1 0", f"go {word}", f"land {word}", f"area {word}"):
                self.refused(self.desk, NoName, line)

    def test_words_go_first(self):
        for line in ("put A 1 x", "put a 01 1", "put c 99 +1", "move zz 1 1 1", "go A b", "box 8 8 0 -0",
                     "take 99 1.0"):
            self.no(line)


def expected_answers(chart):
    """Tell what a desk with this chart answers to lines that ask, by the chart and the functions."""
    places = chart.spots()
    names = sorted(places)
    answers = {"spots": "; ".join(f"{name} {places[name][0]} {places[name][1]}" for name in names) or "-"}
    for name in names:
        answers[f"land {name}"] = show_field(chart.land(name))
        answers[f"area {name}"] = show_fraction(area(chart.land(name)))
    if names:
        spots = [places[name] for name in names]
        square, points = emptiest(chart.box(), spots)
        answers["empty"] = "; ".join([show_fraction(square)] + [show_point(point) for point in points])
        answers["ties"] = "; ".join(f"{names[i]} {names[j]}" for i, j in ties(spots)) or "-"
        centre, square, _ = least_ring(spots)
        answers["ring"] = f"{show_point(centre)} {show_fraction(square)}"
        steps = [(spots[i][0] - spots[j][0]) ** 2 + (spots[i][1] - spots[j][1]) ** 2 for i, j in least_tree(spots)]
        answers["tree"] = str(max(steps, default=0))
        for x, y in ((0, 0), (3, 2), (-50, 7), spots[0]):
            answers[f"near {x} {y}"] = " ".join(names[at] for at in nearest_spots(spots, (x, y, 1)))
        x, y, u, v = chart.box()
        for spot in ((x, y), (u, v), ((x + u) // 2, (y + v) // 2)):
            if spot not in spots and len(spots) < 12:
                rows = [f"{names[at]} {show_fraction(part)}" for at, part in takes(chart.box(), spots, spot)]
                answers[f"take {spot[0]} {spot[1]}"] = "; ".join(rows)
    return answers


def some_deed(k, chart, scale):
    """Tell a line that looks like chance but never changes, and the same as a call of a chart."""
    name = NAMES[small(k, 0, 11)]
    x, y = small(k + 50, -6, 6) * scale, small(k + 150, -6, 6) * scale
    kind = small(k + 250, 0, 9)
    if kind < 5:
        return f"put {name} {x} {y}", lambda: chart.put(name, (x, y))
    if kind < 7:
        return f"move {name} {x} {y}", lambda: chart.move(name, x, y)
    if kind < 8:
        return f"go {name}", lambda: chart.go(name)
    return "back", chart.back


class SideBySideTest(DeskTest):
    def check_side_by_side(self, count, scale):
        box = (-6 * scale, -6 * scale, 5 * scale, 6 * scale)
        desk, chart = desk_of("box " + " ".join(map(str, box))), Chart(box)
        answered = 0
        for k in range(count):
            line, call = some_deed(k, chart, scale)
            try:
                expected = " ".join(call()) or "-"
                answered += 1
            except LandError as refusal:
                expected = type(refusal), getattr(refusal, "at", None)
            self.assertEqual(told(desk, line), expected)
            if k % 4 == 0:
                for question, answer in expected_answers(chart).items():
                    self.check(desk, question, answer)
        self.assertGreater(answered, count // 4)

    def test_small(self):
        self.check_side_by_side(160, 1)

    def test_twenty_six_figures(self):
        self.check_side_by_side(60, big_26(1) // 10)

    def test_two_desks_share_nothing(self):
        one, other = Desk(), Desk()
        one.say("put a 0 0")
        self.check(other, "spots", "-")
        self.refused(other, NoDeed, "back")
        other.say("box 0 0 8 2")
        other.say("put a 7 1")
        other.say("put b 1 1")
        self.check(one, "spots", "a 0 0")
        self.check(one, "land a", "0 0 -1; 1 0 -2; 1 1 -3; 0 1 -4")
        self.check(one, "back", "-")
        self.check(other, "spots", "a 7 1; b 1 1")
        self.refused(one, NoDeed, "back")
        self.check(Desk(), "spots", "-")

    def test_who_asks_the_same_is_told_the_same(self):
        desk = desk_of("box 0 0 8 2", "put a 1 1", "put b 7 1", "put c 4 2")
        first = state(desk)
        for _ in range(3):
            self.assertEqual(state(desk), first)


if __name__ == "__main__":
    unittest.main()
