"""[30], [8], [2], [4]: texts of fractions, points and fields."""

import unittest
from fractions import Fraction
from math import gcd

from nearlands.errors import NoText
from nearlands.far import far_lands
from nearlands.lands import lands
from nearlands.texts import read_field, read_fraction, read_point, show_field, show_fraction, show_point
from nearlands.weights import weighted
from tests.helper import (
    CASES, RING, big, check_fraction, check_field, check_point, check_refused, copied, neighbours, point_at, small,
    small_cases,
)

# Neighbours in the row of sums share no factor: a thousand figures each.
TOP, BOTTOM = neighbours(1000)
LONG = "9" * 1000

FRACTIONS = {
    "0": (0, 1), "1": (1, 1), "-1": (-1, 1), "7": (7, 1), "10": (10, 1), "-10": (-10, 1), "1/2": (1, 2),
    "-1/2": (-1, 2), "3/2": (3, 2), "-22/7": (-22, 7), "100/99": (100, 99), "1/10": (1, 10), "907/1000": (907, 1000),
    LONG: (int(LONG), 1), "-" + LONG: (-int(LONG), 1), "1/" + LONG: (1, int(LONG)), "-1/" + LONG: (-1, int(LONG)),
    str(TOP) + "/" + str(BOTTOM): (TOP, BOTTOM), "-" + str(BOTTOM) + "/" + str(TOP): (-BOTTOM, TOP),
    "1" + "0" * 999: (10 ** 999, 1),
}

# Texts that no whole number has.
NO_NUMBERS = (
    "", "-", "+", "+1", "--1", "-+1", "1-", "00", "01", "-01", "007", "-0", "+0", "-00", " 1", "1 ", " ", "1 2", "a",
    "1a", "0x1", "1.0", "1.", "1e5", "1_000", "_1", "1,0", "\n", "1\n", "\n1", "1\t", "\u0661", "\u00b2", "1\u0662",
    "\uff11", "\u2212" + "1", "\u096b", "9" * 1001, "-" + "9" * 1001, "1" + "0" * 1000, "0" * 1000, "0" * 1001, "None",
    "True", "~", "1;", ";", "\u00a0" + "1", "1" + "\u2003", "9" * 5000, "-" + "9" * 36000,
)
NO_FRACTIONS = NO_NUMBERS + (
    "1/1", "5/1", "-5/1", "0/1", "0/2", "0/7", "-0/2", "1/0", "0/0", "1/-2", "-1/-2", "1/-1", "2/4", "-2/4", "3/3",
    "6/4", "/", "1/", "/2", "//", "1//2", "1/2/3", "1/2/", "/1/2", "1 /2", "1/ 2", "1 / 2", " 1/2", "1/2 ", "1/02",
    "01/2", "1/+2", "+1/2", "1/2a", "1\\2", "1:2", "1/\u0662", "1/" + "9" * 1001, "9" * 1001 + "/2", LONG + "/" + LONG,
    str(3 * int("1" * 999)) + "/" + str(int("1" * 999)), "1/00", "1/2\n", "1;2",
)


class FractionTest(unittest.TestCase):
    def test_texts(self):
        for text, fraction in FRACTIONS.items():
            self.assertEqual(show_fraction(fraction), text)
            told = read_fraction(text)
            check_fraction(self, told)
            self.assertEqual(told, fraction)

    def test_many(self):
        for k in range(300):
            top, bottom = small(k, -999, 999), small(k + 400, 1, 99)
            common = gcd(top, bottom)
            fraction = (top // common, bottom // common)
            self.assertEqual(read_fraction(show_fraction(fraction)), fraction)
            if common > 1:
                check_refused(self, NoText, lambda: read_fraction(f"{top}/{bottom}"))
        for k in range(20):
            top, bottom = -big(k) * big(k + 1), big(k + 1) + 1
            fraction = (top // gcd(top, bottom), bottom // gcd(top, bottom))
            self.assertEqual(read_fraction(show_fraction(fraction)), fraction)

    def test_no_text(self):
        for text in NO_FRACTIONS:
            with self.subTest(text[:40]):
                check_refused(self, NoText, lambda: read_fraction(text))


class PointTest(unittest.TestCase):
    POINTS = {
        "0 0": (0, 0, 1), "3 -4": (3, -4, 1), "1/2 1/2": (1, 1, 2), "1/2 1": (1, 2, 2), "-3/2 0": (-3, 0, 2),
        "1/2 1/3": (3, 2, 6), "5/6 -7/4": (10, -21, 12), "1/4 1/2": (1, 2, 4), "0 -1/7": (0, -1, 7),
        LONG + " -" + LONG: (int(LONG), -int(LONG), 1),
        str(TOP) + "/" + str(BOTTOM) + " 1": (TOP, BOTTOM, BOTTOM),
        "1/" + str(TOP) + " 1/" + str(BOTTOM): (BOTTOM, TOP, TOP * BOTTOM),
    }

    def test_texts(self):
        for text, point in self.POINTS.items():
            self.assertEqual(show_point(point), text)
            told = read_point(text)
            check_point(self, told)
            self.assertEqual(told, point)

    def test_all_two_fractions(self):
        for one, x in list(FRACTIONS.items())[:14]:
            for other, y in FRACTIONS.items():
                expected = point_at(Fraction(*x), Fraction(*y))
                self.assertEqual(read_point(one + " " + other), expected)
                self.assertEqual(show_point(expected), one + " " + other)

    def test_no_text(self):
        for text in NO_FRACTIONS:
            with self.subTest(text[:40]):
                if text != "1 2":
                    check_refused(self, NoText, lambda: read_point(text))
                check_refused(self, NoText, lambda: read_point(text + " 1"))
                check_refused(self, NoText, lambda: read_point("1 " + text))
                check_refused(self, NoText, lambda: read_point("1/2 " + text))
        for text in ("1", "1/2", "1 2 3", "1  2", " 1 2", "1 2 ", "1\t2", "1\n2", "1 2\n", "1, 2", "(1, 2)", "1;2",
                     "1; 2", "1 2;", "1 2 ; ", "1\u00a02", "1 2/1", "2/2 1", "1 -0", "1 2 -1"):
            check_refused(self, NoText, lambda: read_point(text))


def told_fields():
    """Tell many fields that the program makes, small and great."""
    for k, (box, spots) in enumerate(list(CASES.values()) + list(small_cases(15))):
        weights = [small(31 * k + 7 * number, -20, 20) for number in range(len(spots))]
        for told in (lands(box, spots), far_lands(box, spots), weighted(box, spots, weights)):
            yield from [field for field in told if field is not None]


class FieldTest(unittest.TestCase):
    TRIANGLE = "0 0 -1; 3/2 0 4; 0 3 -4"

    def test_texts(self):
        field = ([(0, 0, 1), (3, 0, 2), (0, 3, 1)], [-1, 4, -4])
        self.assertEqual(show_field(field), self.TRIANGLE)
        self.assertEqual(read_field(self.TRIANGLE), field)
        box = ([(-1, -2, 1), (3, -2, 1), (3, 4, 1), (-1, 4, 1)], [-1, -2, -3, -4])
        text = "-1 -2 -1; 3 -2 -2; 3 4 -3; -1 4 -4"
        self.assertEqual((show_field(box), read_field(text)), (text, box))

    def test_through_texts_and_back(self):
        for field in told_fields():
            handed = copied(field)
            text = show_field(handed)
            self.assertEqual(handed, field)
            told = read_field(text)
            check_field(self, told)
            self.assertEqual(told, field)
            self.assertEqual(show_field(told), text)

    def test_a_thousand_figures(self):
        long = int(LONG)
        field = ([(-long, 0, 1), (TOP, -BOTTOM, BOTTOM), (0, long, 1)], [long, -long, 0])
        text = f"-{LONG} 0 {LONG}; {TOP}/{BOTTOM} -1 -{LONG}; 0 {LONG} 0"
        self.assertEqual(show_field(field), text)
        self.assertEqual(read_field(text), field)
        for old in (f" {LONG};", f"-{LONG};", f"-{LONG} 0"):
            check_refused(self, NoText, lambda: read_field(text.replace(old, old.replace("9", "99", 1))))

    def test_a_long_text(self):
        rows = [f"{k} {k * k} {k}" for k in range(2000)]
        text = "; ".join(rows)
        self.assertTrue(30000 < len(text) <= 36000, len(text))
        corners, edges = read_field(text)
        self.assertEqual(corners, [(k, k * k, 1) for k in range(2000)])
        self.assertEqual(edges, list(range(2000)))
        self.assertEqual(show_field((corners, edges)), text)
        check_refused(self, NoText, lambda: read_field("; ".join(rows[1:] + rows[:1])))

    def no(self, text):
        check_refused(self, NoText, lambda: read_field(text))

    def test_words(self):
        for wrong in NO_NUMBERS:
            with self.subTest(wrong[:40]):
                self.no(f"0 0 {wrong}; 3/2 0 4; 0 3 -4")
                self.no(f"0 0 -1; 3/2 0 4; 0 3 {wrong}")
                self.no(wrong)
        for wrong in NO_FRACTIONS:
            with self.subTest(wrong[:40]):
                self.no(f"{wrong} 0 -1; 3/2 0 4; 0 3 -4")
                self.no(f"0 0 -1; 3/2 {wrong} 4; 0 3 -4")
                self.no(wrong)
        self.no("0 0 1/2; 3/2 0 4; 0 3 -4")
        self.no("0 0 a; 3/2 0 4; 0 3 -4")

    def test_signs_between(self):
        for text in ("0 0 -1;3/2 0 4; 0 3 -4", "0 0 -1 ; 3/2 0 4; 0 3 -4", "0 0 -1;  3/2 0 4; 0 3 -4",
                     "0 0 -1; 3/2 0 4; 0 3 -4;", "0 0 -1; 3/2 0 4; 0 3 -4; ", "; 0 0 -1; 3/2 0 4; 0 3 -4",
                     " 0 0 -1; 3/2 0 4; 0 3 -4", "0 0 -1; 3/2 0 4; 0 3 -4 ", "0 0 -1; 3/2  0 4; 0 3 -4",
                     "0 0 -1, 3/2 0 4, 0 3 -4", "0 0 -1;; 3/2 0 4; 0 3 -4", "0 0 -1; ; 3/2 0 4; 0 3 -4",
                     "0 0 -1\n3/2 0 4\n0 3 -4", "0 0 -1;\n3/2 0 4; 0 3 -4", "0 0 -1;\t3/2 0 4; 0 3 -4",
                     "0 0 -1; 3/2 0 4; 0 3 -4\n", "", ";", "; ", "; ; ", " "):
            self.no(text)

    def test_a_part_less_or_more(self):
        for text in ("0 0; 3/2 0 4; 0 3 -4", "0 0 -1; 3/2 0 4; 0 3", "0 0 -1 -1; 3/2 0 4; 0 3 -4",
                     "0 -1; 3/2 0 4; 0 3 -4", "0 0 -1; 3/2 0 4; -4", "0 0 -1; 3/2 0 4; 0 0 3 -4"):
            self.no(text)

    def test_no_field(self):
        for text in (
            # Two corners, one, three on a line, the other way round, another first one, one twice, on the way.
            "0 0 -1; 3/2 0 4", "0 0 -1", "0 0 -1; 1 1 2; 3 3 5", "0 0 -1; 0 3 4; 3/2 0 -4", "3/2 0 4; 0 3 -4; 0 0 -1",
            "0 3 -4; 0 0 -1; 3/2 0 4", "0 0 -1; 0 0 -1; 3/2 0 4; 0 3 -4", "0 0 -1; 1 0 -1; 3/2 0 4; 0 3 -4",
            "0 0 -1; 3/2 0 4; 0 3 -4; 0 0 -1", "0 0 -1; 3/2 0 4; 0 3 -4; 0 1 -4",
            # Not turning to the left at each corner, and going round twice.
            "0 0 1; 4 0 2; 1 1 3; 0 4 4", "0 0 1; 1 0 2; 0 1 3; 0 0 1; 1 0 2; 0 1 3",
        ):
            self.no(text)

    def test_stars(self):
        for count, stride in ((5, 2), (7, 2), (7, 3)):
            ring = [RING[at * 12 // count] for at in range(count)]
            first = ring.index(min(ring))
            ring = ring[first:] + ring[:first]
            read_field("; ".join(f"{x} {y} {at}" for at, (x, y) in enumerate(ring)))
            star = [ring[at * stride % count] for at in range(count)]
            self.no("; ".join(f"{x} {y} {at}" for at, (x, y) in enumerate(star)))

    def test_own(self):
        told = read_field(self.TRIANGLE)
        kept = copied(told)
        told[0].clear()
        told[1].append(9)
        self.assertEqual(read_field(self.TRIANGLE), kept)


if __name__ == "__main__":
    unittest.main()
