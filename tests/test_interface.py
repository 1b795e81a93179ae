"""The interface: its modules, names and arguments by place, and methods that stand in their class itself."""

import importlib
import inspect
import unittest

FUNCTIONS = {
    "points": "point_of(x, y, w) fraction_of(top, bottom) ahead(one, other) turn(one, other, third) "
              "nearer(point, one, other) square(point, spot)",
    "lines": "line_of(a, b, c) between(one, other) place(line, point) meet(one, other)",
    "fields": "cut(field, line, number) area(field) box_field(box)",
    "lands": "land_of(box, spots, number) lands(box, spots)",
    "meetings": "meetings(box, spots) emptiest(box, spots) holders(box, spots, point)",
    "takes": "takes(box, spots, spot)",
    "seams": "seam(box, spots, lot) kept(box, spots, lot) halves(spots) joined(box, spots, lot, ours, others)",
    "fronts": "front(spots, height) passes(spots) higher(one, other)",
    "webs": "reach(spots, one, other) ties(spots) rings(spots) rim(spots) cut_by(box, spots, ties)",
    "near": "nearest(spots, point, count) walk(spots, point, number) shows_near(spots, point, found)",
    "far": "far_lands(box, spots) least_ring(spots)",
    "weights": "measure(point, spot, weight) weighted(box, spots, weights)",
    "looker": "is_field(thing) is_lands(box, spots, thing) is_far(box, spots, thing) "
              "is_weighted(box, spots, weights, thing)",
    "trees": "least_tree(spots) tree_way(spots, one, other)",
    "texts": "show_fraction(fraction) show_point(point) show_field(field) "
             "read_fraction(text) read_point(text) read_field(text)",
}
CLASSES = {
    ("charts", "Chart"): "__init__(self, box) put(self, name, spot) move(self, name, dx, dy) go(self, name) back(self) "
                         "box(self) spots(self) lands(self) land(self, name)",
    ("desk", "Desk"): "__init__(self) say(self, line)",
}


def parts(text):
    """Tell the names and the arguments of what is written as in the interface."""
    return [tuple(part.strip().split("(")) for part in text.split(")") if part]


class InterfaceTest(unittest.TestCase):
    def check(self, function, arguments):
        self.assertTrue(inspect.isfunction(function))
        self.assertEqual(str(inspect.signature(function)), f"({arguments})")

    def test_functions(self):
        for module, text in FUNCTIONS.items():
            for name, arguments in parts(text):
                with self.subTest(module, name=name):
                    self.check(getattr(importlib.import_module("nearlands." + module), name), arguments)

    def test_classes(self):
        for (module, name), text in CLASSES.items():
            kind = getattr(importlib.import_module("nearlands." + module), name)
            for method, arguments in parts(text):
                with self.subTest(name, method=method):
                    self.check(vars(kind)[method], arguments)


if __name__ == "__main__":
    unittest.main()
