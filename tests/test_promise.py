"""[4], [2]: what the whole program promises, over drawn boxes and spots, small and great, all stages side by side."""

import unittest
from fractions import Fraction

from nearlands.charts import Chart
from nearlands.desk import Desk
from nearlands.far import far_lands
from nearlands.fields import area
from nearlands.fronts import front
from nearlands.lands import lands
from nearlands.looker import is_far, is_field, is_lands, is_weighted
from nearlands.meetings import holders
from nearlands.near import nearest, shows_near, walk
from nearlands.seams import halves, joined, kept, seam
from nearlands.takes import takes
from nearlands.texts import read_field, read_fraction, show_field, show_fraction
from nearlands.trees import least_tree
from nearlands.webs import cut_by, rings, ties
from nearlands.weights import weighted
from tests.helper import (
    CASES, big_26, has_point, lot_lands, moved_case, small, small_cases, some_points, way_square,
)

NAMES = ["f", "b", "ab", "zz", "q", "abcdefgh", "y", "aa", "hgfedcba", "n", "mm", "c"]


def drawn():
    """Tell boxes with spots: those by name, small ones, and ones of up to twenty-six figures."""
    told = [case for name, case in CASES.items() if name != "thirty figures"] + list(small_cases(30))
    great = [moved_case(box, spots, big_26(k) // 10 ** 4, -big_26(k + 1) // 10, big_26(k + 2) // 10)
             for k, (box, spots) in enumerate(told[::3])]
    return told + great


def weights_of(spots, k):
    return [small(31 * k + 7 * number, -30, 30) for number in range(len(spots))]


def area_of(fields):
    return sum(Fraction(*area(field)) for field in fields if field is not None)


class PromiseTest(unittest.TestCase):
    def test_lands_cover_the_box_and_hold_their_nearest_points(self):
        for box, spots in drawn():
            told = lands(box, spots)
            self.assertEqual(area_of(told), (box[2] - box[0]) * (box[3] - box[1]))
            for point in some_points(box, told)[::7]:
                near = [number for number, field in enumerate(told) if has_point(field, point)]
                self.assertEqual(holders(box, spots, point), near)

    def test_the_looker_lets_by_just_these_through_texts_and_back(self):
        for k, (box, spots) in enumerate(drawn()):
            weights = weights_of(spots, k)
            lists = [lands(box, spots), far_lands(box, spots), weighted(box, spots, weights)]
            self.assertEqual([area_of(told) for told in lists], [(box[2] - box[0]) * (box[3] - box[1])] * 3)
            for told in lists:
                again = [None if field is None else read_field(show_field(field)) for field in told]
                self.assertEqual(again, told)
                self.assertTrue(all(field is None or is_field(field) for field in again))
                self.assertIs(is_lands(box, spots, again), again == lists[0])
                self.assertIs(is_far(box, spots, again), again == lists[1])
                self.assertIs(is_weighted(box, spots, weights, again), again == lists[2])

    def test_lands_that_others_made(self):
        for box, spots in drawn():
            self.assertIs(is_lands(box, spots, cut_by(box, spots, ties(spots))), True)
            self.assertIs(is_lands(box, spots, weighted(box, spots, [7] * len(spots))), True)
            if len(spots) > 1:
                one, other = halves(spots)
                parts = lot_lands(box, spots, one), lot_lands(box, spots, other)
                self.assertIs(is_lands(box, spots, joined(box, spots, one, *parts)), True)
                self.assertIs(is_lands(box, spots, [None] * len(spots)), False)

    def test_what_a_spot_more_takes(self):
        for box, spots in drawn():
            if len(spots) > 1:
                parts = takes(box, spots[:-1], spots[-1])
                self.assertEqual(sum(Fraction(*part) for _, part in parts), area_of(lands(box, spots)[-1:]))

    def test_just_the_lands_at_the_seam_change(self):
        for box, spots in drawn():
            if len(spots) > 1:
                together = lands(box, spots)
                for lot in halves(spots):
                    alone = lot_lands(box, spots, lot)
                    same = [number for number, field in zip(lot, alone) if field == together[number]]
                    self.assertEqual(same, kept(box, spots, lot))
                    at_seam = {row[2] for row in seam(box, spots, lot)}
                    self.assertEqual(set(lot) - set(same), at_seam)

    def test_front_web_and_tree(self):
        for box, spots in drawn():
            told_ties, told_rings = ties(spots), rings(spots)
            self.assertEqual(len(spots) - len(told_ties) + len(told_rings), 1)
            for centre, square, around in told_rings:
                self.assertEqual(min(way_square(centre, spot) for spot in spots), Fraction(*square))
            self.assertLessEqual(set(least_tree(spots)), set(told_ties))
            for up in range(box[1], box[3] + 1, 1 + (box[3] - box[1]) // 4):
                arcs = front(spots, (2 * up + 1, 2))
                for one, other in zip(arcs, arcs[1:]):
                    self.assertIn((min(one, other), max(one, other)), told_ties)

    def test_the_nearest_few_are_found_along_the_web(self):
        for box, spots in drawn():
            both = ties(spots) + [(other, one) for one, other in ties(spots)]
            for point in some_points(box, lands(box, spots))[::40]:
                found = walk(spots, point, len(spots) - 1)[-1:]
                while True:
                    self.assertTrue(shows_near(spots, point, found))
                    near = nearest(spots, point, len(found))
                    self.assertEqual([way_square(point, spots[number]) for number in found],
                                     [way_square(point, spots[number]) for number in near])
                    tied = {other for one, other in both if one in found} - set(found)
                    if not tied:
                        break
                    found.append(min(tied, key=lambda number: way_square(point, spots[number])))
                self.assertEqual(len(found), len(spots))

    def test_charts_and_desks_side_by_side_with_the_functions(self):
        for box, spots in drawn():
            desk, chart = Desk(), Chart(box)
            desk.say("box " + " ".join(map(str, box)))
            for name, (x, y) in zip(NAMES, spots):
                self.assertEqual(desk.say(f"put {name} {x} {y}"), " ".join(chart.put(name, (x, y))) or "-")
            names = sorted(NAMES[:len(spots)])
            in_order = [chart.spots()[name] for name in names]
            for name, field in zip(names, lands(box, in_order)):
                self.assertEqual(read_fraction(desk.say("area " + name)), area(field))
                called = (field[0], [names[edge] if edge >= 0 else edge for edge in field[1]])
                self.assertEqual(chart.land(name), called)
                self.assertEqual(desk.say("land " + name), show_field(called))
            if len(spots) < 12 and (box[0], box[1]) not in spots:
                rows = [f"{names[at]} {show_fraction(part)}" for at, part in takes(box, in_order, box[:2])]
                self.assertEqual(desk.say(f"take {box[0]} {box[1]}"), "; ".join(rows))

    def test_a_chart_behind_deeds_is_the_chart_made_anew(self):
        for k, (box, spots) in enumerate(drawn()):
            desk, anew = Desk(), Desk()
            for one in (desk, anew):
                one.say("box " + " ".join(map(str, box)))
            for name, (x, y) in zip(NAMES, spots):
                desk.say(f"put {name} {x} {y}")
            for at in range(0, len(spots), 2):
                desk.say("go " + NAMES[at])
            for at in range(0, len(spots), 4):
                desk.say("back")
            rows = desk.say("spots").split("; ")
            for row in rows[k % 5:] + rows[:k % 5]:
                if row != "-":
                    anew.say("put " + row)
            for line in ["spots", *["land " + row.split(" ")[0] for row in rows if row != "-"]]:
                self.assertEqual(desk.say(line), anew.say(line))


if __name__ == "__main__":
    unittest.main()
