"""[15], [16], [4], [2]: charts of named spots that come, move and go."""

import unittest

from nearlands.charts import Chart
from nearlands.errors import NoBox, NoDeed, NoName, NoSpot, Taken, TooMany, Unknown
from nearlands.lands import lands
from tests.helper import CASES, big_26, check_point, check_refused, copied, moved_case, small

BOX = (0, 0, 10, 8)
NAMES = ["a", "b", "ab", "zz", "q", "abcdefgh", "y", "aa", "hgfedcba", "n", "mm", "c"]
NO_NAMES = (
    "", "abcdefghi", "A", "aB", "Abc", "a1", "1", "a b", " ", "a ", " a", "a_", "a-b", "a\n", "`", "{", "a" * 36000,
    "aaaaaaaA", "\u00e9", "a\u00df", "\u00aa", "\u03b1", "\u2170",
)


def expected_lands(box, spots):
    """Tell the lands of a dict of named spots by the lands of their list in the order of names."""
    names = sorted(spots)
    if not names:
        return {}
    told = lands(box, [spots[name] for name in names])
    return {
        name: (corners, [edge if edge < 0 else names[edge] for edge in edges])
        for name, (corners, edges) in zip(names, told)
    }


def changed_names(box, earlier, later, but):
    one, other = expected_lands(box, earlier), expected_lands(box, later)
    return [name for name in sorted(later) if name != but and one[name] != other[name]]


def state(chart):
    return chart.box(), chart.spots(), chart.lands()


def made_of(box, spots):
    chart = Chart(box)
    for name, spot in spots.items():
        chart.put(name, spot)
    return chart


class ChartTest(unittest.TestCase):
    def check_chart(self, chart, box, spots):
        """Fail unless the chart is one of the box with these spots."""
        self.assertEqual(chart.box(), box)
        self.assertIs(type(chart.box()), tuple)
        self.assertEqual(chart.spots(), spots)
        self.assertIs(type(chart.spots()), dict)
        told = chart.lands()
        self.assertIs(type(told), dict)
        self.assertEqual(told, expected_lands(box, spots))
        for name in spots:
            land = chart.land(name)
            self.assertEqual(land, told[name])
            self.assertIs(type(land), tuple)
            self.assertEqual([type(part) for part in land], [list, list])
            for corner in land[0]:
                check_point(self, corner)

    def refused(self, chart, kind, call):
        """Fail unless the call is refused so, and the chart stays as it was."""
        earlier = state(chart)
        check_refused(self, kind, call, None)
        self.assertEqual(state(chart), earlier)


class DeedsTest(ChartTest):
    def test_a_new_chart(self):
        chart = Chart(BOX)
        self.check_chart(chart, BOX, {})
        self.assertEqual(chart.spots(), {})
        self.assertEqual(chart.lands(), {})

    def test_no_box(self):
        for box in ((0, 0, 0, 8), (0, 0, 10, 0), (10, 0, 0, 8), (5, 5, 5, 5), (big_26(1), 0, -big_26(1), 1)):
            check_refused(self, NoBox, lambda: Chart(box))

    def test_put(self):
        chart = Chart((0, 0, 8, 2))
        self.assertEqual(chart.put("c", (1, 1)), [])
        self.assertEqual(chart.put("b", (7, 1)), ["c"])
        # c lies across b from the one more, so its land stays.
        self.assertEqual(chart.put("a", (8, 1)), ["b"])
        self.assertEqual(chart.put("d", (4, 1)), ["b", "c"])
        self.check_chart(chart, (0, 0, 8, 2), {"c": (1, 1), "b": (7, 1), "a": (8, 1), "d": (4, 1)})

    def test_edges_are_called_by_names(self):
        chart = made_of((0, 0, 4, 2), {"right": (3, 1), "left": (1, 1)})
        self.assertEqual(chart.lands(), {
            "left": ([(0, 0, 1), (2, 0, 1), (2, 2, 1), (0, 2, 1)], [-1, "right", -3, -4]),
            "right": ([(2, 0, 1), (4, 0, 1), (4, 2, 1), (2, 2, 1)], [-1, -2, -3, "left"]),
        })

    def test_move(self):
        chart = made_of((0, 0, 12, 2), {"b": (1, 1), "m": (4, 1), "a": (7, 1), "e": (11, 1)})
        self.assertEqual(chart.move("m", 1, 0), ["a", "b"])
        self.assertEqual(chart.spots()["m"], (5, 1))
        self.assertEqual(chart.move("m", -2, -1), ["a", "b"])
        self.assertEqual(chart.spots()["m"], (3, 0))
        self.assertEqual(chart.move("e", 1, 1), ["a"])
        self.check_chart(chart, (0, 0, 12, 2), {"b": (1, 1), "m": (3, 0), "a": (7, 1), "e": (12, 2)})

    def test_a_move_by_nothing_is_a_deed(self):
        chart = made_of(BOX, {"a": (1, 1), "b": (5, 5)})
        earlier = state(chart)
        self.assertEqual(chart.move("a", 0, 0), [])
        self.assertEqual(state(chart), earlier)
        self.assertEqual(chart.back(), [])
        self.assertEqual(state(chart), earlier)
        self.assertEqual(chart.back(), ["a"])
        self.assertEqual(chart.spots(), {"a": (1, 1)})

    def test_go(self):
        chart = made_of((0, 0, 12, 2), {"b": (1, 1), "m": (4, 1), "a": (7, 1), "e": (11, 1)})
        self.assertEqual(chart.go("m"), ["a", "b"])
        self.assertEqual(chart.go("e"), ["a"])
        self.assertEqual(chart.go("b"), ["a"])
        self.assertEqual(chart.go("a"), [])
        self.check_chart(chart, (0, 0, 12, 2), {})

    def test_told_names_stand_in_pythons_order(self):
        spots = dict(zip(["b", "ab", "a", "aa", "z", "ba", "bb", "c"], CASES["ring"][1]))
        box = CASES["ring"][0]
        chart = made_of(box, spots)
        self.assertEqual(chart.put("m", (0, 0)), ["a", "aa", "ab", "b", "ba", "bb", "c", "z"])
        self.assertEqual(chart.go("m"), ["a", "aa", "ab", "b", "ba", "bb", "c", "z"])

    def test_a_land_that_touches_the_new_one_in_a_point_alone_is_not_told(self):
        chart = made_of((0, 0, 4, 4), {"a": (1, 1), "b": (3, 1), "c": (1, 3)})
        self.assertEqual(chart.put("d", (3, 3)), ["b", "c"])
        self.assertEqual(chart.go("d"), ["b", "c"])

    def test_a_land_that_changes_only_in_what_an_edge_is_called_by(self):
        # One deed can't change an edge's name alone, as one spot stands across each edge; two deeds can.
        chart = made_of((0, 0, 4, 2), {"x": (1, 1), "a": (3, 1)})
        earlier = chart.land("x")
        self.assertEqual(chart.go("a"), ["x"])
        self.assertEqual(chart.put("b", (3, 1)), ["x"])
        later = chart.land("x")
        self.assertEqual(later[0], earlier[0])
        self.assertEqual(earlier[1], [-1, "a", -3, -4])
        self.assertEqual(later[1], [-1, "b", -3, -4])

    def test_a_land_that_keeps_its_area_but_not_its_corners_is_told(self):
        chart = made_of((-4, -4, 4, 4), {"x": (0, 0), "a": (2, 0), "b": (-2, 0)})
        self.assertEqual(chart.put("c", (0, 2)), ["a", "b", "x"])
        self.assertEqual(chart.move("c", 0, -4), ["a", "b", "x"])
        self.assertEqual(chart.land("x")[1], ["c", "a", -3, "b"])

    def test_names_of_one_and_of_eight_letters(self):
        chart = Chart(BOX)
        for k, name in enumerate(NAMES):
            chart.put(name, (k % 10, k // 10))
        self.assertEqual(sorted(chart.spots()), sorted(NAMES))
        for name in ("a", "z", "zzzzzzzz", "aaaaaaaa"):
            Chart(BOX).put(name, (1, 1))

    def test_sides_and_corners_of_the_box_belong_to_it(self):
        chart = Chart(BOX)
        for name, spot in (("a", (0, 0)), ("b", (10, 8)), ("c", (0, 8)), ("d", (10, 0)), ("e", (5, 0)), ("f", (10, 3))):
            chart.put(name, spot)
        chart.move("e", 0, 8)
        self.assertEqual(chart.spots()["e"], (5, 8))


class RefusedTest(ChartTest):
    def setUp(self):
        self.chart = made_of(BOX, {"a": (1, 1), "b": (5, 5), "c": (9, 8)})
        self.full = made_of(BOX, {name: (k % 10, k // 10) for k, name in enumerate(NAMES)})

    def test_what_is_no_name(self):
        for name in NO_NAMES:
            with self.subTest(name[:20]):
                for chart in (self.chart, self.full):
                    self.refused(chart, NoName, lambda: chart.put(name, (2, 2)))
                    self.refused(chart, NoName, lambda: chart.move(name, 1, 1))
                    self.refused(chart, NoName, lambda: chart.go(name))
                    self.refused(chart, NoName, lambda: chart.land(name))

    def test_taken(self):
        self.refused(self.chart, Taken, lambda: self.chart.put("a", (2, 2)))
        self.refused(self.chart, Taken, lambda: self.chart.put("a", (1, 1)))

    def test_unknown(self):
        for name in ("d", "aa", "zzzzzzzz"):
            self.refused(self.chart, Unknown, lambda: self.chart.move(name, 1, 1))
            self.refused(self.chart, Unknown, lambda: self.chart.go(name))
            self.refused(self.chart, Unknown, lambda: self.chart.land(name))
        self.chart.go("a")
        self.refused(self.chart, Unknown, lambda: self.chart.go("a"))
        self.refused(self.chart, Unknown, lambda: self.chart.move("a", 0, 0))
        self.refused(self.chart, Unknown, lambda: self.chart.land("a"))

    def test_too_many(self):
        self.refused(self.full, TooMany, lambda: self.full.put("new", (9, 7)))
        self.full.move("a", 9, 7)
        self.full.go("a")
        self.full.put("new", (9, 7))
        self.refused(self.full, TooMany, lambda: self.full.put("a", (0, 0)))

    def test_beyond_the_box(self):
        for spot in ((-1, 4), (11, 4), (4, -1), (4, 9), (big_26(1), 0), (0, -big_26(1))):
            self.refused(self.chart, NoSpot, lambda: self.chart.put("d", spot))
            self.refused(self.chart, NoSpot, lambda: self.chart.move("a", spot[0] - 1, spot[1] - 1))

    def test_anothers_spot(self):
        self.refused(self.chart, NoSpot, lambda: self.chart.put("d", (1, 1)))
        self.refused(self.chart, NoSpot, lambda: self.chart.move("a", 4, 4))
        self.refused(self.chart, NoSpot, lambda: self.chart.move("c", -8, -7))
        self.assertEqual(self.chart.move("a", 0, 0), [])

    def test_several_due_at_once(self):
        chart, full = self.chart, self.full
        self.refused(full, NoName, lambda: full.put("A", (99, 99)))
        self.refused(chart, NoName, lambda: chart.move("A", 99, 99))
        self.refused(full, Taken, lambda: full.put("a", (99, 99)))
        self.refused(full, Taken, lambda: full.put("a", (0, 0)))
        self.refused(chart, Taken, lambda: chart.put("a", (99, 99)))
        self.refused(chart, Unknown, lambda: chart.move("d", 99, 99))
        self.refused(full, Unknown, lambda: full.move("d", 99, 99))
        self.refused(full, TooMany, lambda: full.put("d", (99, 99)))
        self.refused(full, TooMany, lambda: full.put("d", (0, 0)))

    def test_a_refused_deed_is_none_to_take_back(self):
        chart = Chart(BOX)
        for call, kind in (
            (lambda: chart.put("A", (1, 1)), NoName), (lambda: chart.put("a", (99, 1)), NoSpot),
            (lambda: chart.move("a", 1, 1), Unknown), (lambda: chart.go("a"), Unknown),
        ):
            self.refused(chart, kind, call)
            self.refused(chart, NoDeed, chart.back)
        chart.put("a", (1, 1))
        for call, kind in (
            (lambda: chart.put("a", (2, 2)), Taken), (lambda: chart.put("b", (1, 1)), NoSpot),
            (lambda: chart.move("a", 99, 1), NoSpot), (lambda: chart.go("b"), Unknown),
        ):
            self.refused(chart, kind, call)
        self.assertEqual(chart.back(), [])
        self.assertEqual(chart.spots(), {})
        self.refused(chart, NoDeed, chart.back)


class BackTest(ChartTest):
    def test_nothing_to_take_back(self):
        chart = Chart(BOX)
        self.refused(chart, NoDeed, chart.back)

    def test_behind_each_kind_of_deed(self):
        chart = made_of((0, 0, 12, 2), {"b": (1, 1), "m": (4, 1), "a": (7, 1)})
        earlier = state(chart)
        for call in (
            lambda: chart.put("c", (11, 1)), lambda: chart.move("m", 1, 1), lambda: chart.go("m"),
            lambda: chart.go("b"), lambda: chart.move("a", 0, 0), lambda: chart.put("aa", (5, 0)),
        ):
            told = call()
            self.assertEqual(chart.back(), told)
            self.assertEqual(state(chart), earlier)

    def test_behind_a_go_the_spot_is_there_again_where_it_was(self):
        chart = made_of(BOX, {"a": (1, 1), "b": (5, 5)})
        chart.move("a", 2, 1)
        chart.go("a")
        self.assertEqual(chart.spots(), {"b": (5, 5)})
        self.assertEqual(chart.back(), ["b"])
        self.check_chart(chart, BOX, {"a": (3, 2), "b": (5, 5)})
        self.assertEqual(chart.back(), ["b"])
        self.check_chart(chart, BOX, {"a": (1, 1), "b": (5, 5)})

    def test_back_is_no_deed(self):
        chart = made_of(BOX, {"a": (1, 1), "b": (5, 5)})
        chart.back()
        chart.back()
        self.assertEqual(chart.spots(), {})
        self.refused(chart, NoDeed, chart.back)
        self.refused(chart, NoDeed, chart.back)

    def test_a_deed_behind_a_back(self):
        chart = made_of(BOX, {"a": (1, 1), "b": (5, 5)})
        chart.move("a", 1, 0)
        chart.back()
        chart.go("b")
        self.check_chart(chart, BOX, {"a": (1, 1)})
        self.assertEqual(chart.back(), ["a"])
        self.check_chart(chart, BOX, {"a": (1, 1), "b": (5, 5)})
        chart.back()
        chart.put("c", (2, 2))
        self.assertEqual(chart.back(), ["a"])
        self.assertEqual(chart.back(), [])
        self.refused(chart, NoDeed, chart.back)

    def test_a_name_that_went_and_came_again(self):
        chart = made_of(BOX, {"a": (1, 1), "b": (5, 5)})
        chart.go("a")
        chart.put("a", (9, 1))
        chart.back()
        self.assertEqual(chart.spots(), {"b": (5, 5)})
        chart.back()
        self.check_chart(chart, BOX, {"a": (1, 1), "b": (5, 5)})

    def test_back_into_a_place_that_was_taken_meanwhile_and_freed(self):
        chart = made_of(BOX, {"a": (1, 1), "b": (5, 5)})
        chart.move("a", 1, 0)
        chart.put("c", (1, 1))
        self.assertEqual(chart.back(), ["a", "b"])
        self.assertEqual(chart.back(), ["b"])
        self.check_chart(chart, BOX, {"a": (1, 1), "b": (5, 5)})


def some_deed(chart, k, places):
    """Tell the k-th of a row of deeds, one that isn't refused, and the spots behind it."""
    spots = chart.spots()
    free = [spot for spot in places if spot not in spots.values()]
    place = free[small(k + 11, 0, len(free) - 1)]
    name = NAMES[small(k, 0, 11)]
    if name not in spots:
        return name, (lambda: chart.put(name, place)), {**spots, name: place}
    if small(k + 500, 0, 3) == 0:
        return name, (lambda: chart.go(name)), {other: spots[other] for other in spots if other != name}
    x, y = spots[name]
    return name, (lambda: chart.move(name, place[0] - x, place[1] - y)), {**spots, name: place}


class ManyDeedsTest(ChartTest):
    def run_deeds(self, box, places, count):
        chart = Chart(box)
        history = []
        for k in range(count):
            earlier = chart.spots()
            if k % 7 == 6 and history:
                name, later = history.pop()
                told = chart.back()
            else:
                name, call, later = some_deed(chart, k, places)
                history.append((name, earlier))
                told = call()
            self.assertIs(type(told), list)
            self.assertEqual(told, changed_names(box, earlier, later, name))
            self.check_chart(chart, box, later)
        # All is taken back to the last.
        while history:
            name, later = history.pop()
            earlier = chart.spots()
            self.assertEqual(chart.back(), changed_names(box, earlier, later, name))
            self.assertEqual(chart.spots(), later)
        self.assertEqual(chart.lands(), {})
        self.refused(chart, NoDeed, chart.back)

    def test_small_numbers(self):
        box = (-1, -1, 4, 3)
        self.run_deeds(box, [(x, y) for x in range(-1, 5) for y in range(-1, 4)], 80)

    def test_greater_numbers(self):
        places = [(small(k, -99, 99), small(k + 300, -99, 99)) for k in range(60)]
        self.run_deeds((-100, -100, 100, 100), sorted(set(places)), 60)

    def test_twenty_six_figures(self):
        signs = ((1, 1), (-1, 1), (1, -1), (-1, -1))
        places = [(signs[k % 4][0] * (big_26(k) // 10), signs[k % 4][1] * (big_26(k + 200) // 10)) for k in range(40)]
        self.run_deeds((-big_26(900), -big_26(901), big_26(902), big_26(903)), places, 40)

    def test_twenty_six_figures_moved(self):
        scale, dx, dy = big_26(1) // 10 ** 4, big_26(2) // 10, -big_26(3) // 10
        for name in ("grid", "ring", "sides and corners", "oblique line", "twelve"):
            box, spots = CASES[name]
            great_box, great_spots = moved_case(box, spots, scale, dx, dy)
            chart, great = Chart(box), Chart(great_box)
            for called, spot, great_spot in zip(NAMES, spots, great_spots):
                self.assertEqual(great.put(called, great_spot), chart.put(called, spot))
            self.check_chart(great, great_box, dict(zip(NAMES, great_spots)))
            for called in NAMES[:len(spots):2]:
                self.assertEqual(great.go(called), chart.go(called))

    def test_the_chart_made_anew_in_whatever_order(self):
        for name in ("grid", "ring with its middle", "twelve", "level line", "sides and corners"):
            box, spots = CASES[name]
            pairs = list(zip(NAMES, spots))
            told = made_of(box, dict(pairs)).lands()
            for order in (pairs[::-1], sorted(pairs), pairs[5:] + pairs[:5], pairs[1::2] + pairs[::2]):
                self.assertEqual(made_of(box, dict(order)).lands(), told)


class OwnTest(ChartTest):
    """[2]: what is told is the asker's own, and charts share nothing."""

    def test_two_charts_side_by_side(self):
        one, other = Chart(BOX), Chart(BOX)
        one.put("a", (1, 1))
        self.assertEqual(other.spots(), {})
        other.put("a", (2, 2))
        other.put("b", (3, 3))
        one.put("b", (5, 5))
        one.go("a")
        self.check_chart(one, BOX, {"b": (5, 5)})
        self.check_chart(other, BOX, {"a": (2, 2), "b": (3, 3)})
        self.assertEqual(other.back(), ["a"])
        self.check_chart(one, BOX, {"b": (5, 5)})
        other.back()
        self.refused(other, NoDeed, other.back)
        self.assertEqual(one.back(), ["b"])
        self.check_chart(one, BOX, {"a": (1, 1), "b": (5, 5)})

    def test_told_things_that_are_changed_change_no_later_answer(self):
        chart = made_of(BOX, {"a": (1, 1), "b": (5, 5), "c": (9, 8)})
        spots, fields, land = chart.spots(), chart.lands(), chart.land("a")
        expected = dict(spots), {name: copied(fields[name]) for name in fields}
        spots["d"] = (0, 0)
        spots["a"] = (7, 7)
        for name in fields:
            fields[name][0].clear()
            fields[name][1].append("more")
        fields.clear()
        land[0].reverse()
        land[1][0] = "other"
        self.check_chart(chart, BOX, expected[0])
        self.assertEqual((chart.spots(), chart.lands()), expected)
        told = chart.move("a", 1, 1)
        self.assertEqual(told, ["b"])
        told.append("x")
        self.assertEqual(chart.back(), ["b"])
        self.assertEqual((chart.spots(), chart.lands()), expected)

    def test_what_was_told_stays_as_it_was(self):
        chart = made_of(BOX, {"a": (1, 1), "b": (5, 5), "c": (9, 8)})
        spots, fields, land, told = chart.spots(), chart.lands(), chart.land("a"), chart.put("d", (3, 3))
        kept = dict(spots), {name: copied(fields[name]) for name in fields}, copied(land), list(told)
        chart.move("a", 1, 1)
        chart.go("b")
        chart.put("e", (0, 0))
        chart.back()
        chart.go("c")
        chart.lands()["a"][0].clear()
        self.assertEqual((spots, fields, land, told), kept)

    def test_no_two_answers_share_a_list(self):
        chart = made_of(BOX, {"a": (1, 1), "b": (5, 5), "c": (9, 8)})
        fields = list(chart.lands().values()) + list(chart.lands().values()) + [chart.land("a"), chart.land("a")]
        lists = [part for field in fields for part in field]
        self.assertEqual(len({id(part) for part in lists}), len(lists))
        self.assertIsNot(chart.spots(), chart.spots())


if __name__ == "__main__":
    unittest.main()
