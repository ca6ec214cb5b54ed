"""The interface: its names, and arguments handed in by their places."""

import inspect
import unittest

from limbtables import (alike, apart, desk, drawings, errors, forms, grounds, mirrors, others, papers, parts, roots,
                        standings, tables, texts)

FUNCTIONS = {
    tables: {"is_table": 2, "plain": 2, "noughts": 3, "product": 3, "sum_of": 3, "side_by_side": 3,
             "one_over_another": 3, "along_corner": 2, "reduced": 2, "rank": 2, "to_nought": 2, "made_by": 2,
             "left_beside": 2, "back_of": 2, "led_to": 3},
    forms: {"two_sided": 3, "worth": 2, "is_good": 1, "low_row": 1},
    roots: {"mirrored": 3, "roots": 1},
    standings: {"same": 2, "changed": 2, "side_of": 3, "maps": 2, "count_maps": 2, "count_ties": 2},
    mirrors: {"turned_in": 2, "turned_out": 2, "single": 3, "forth_and_back": 2, "back_and_forth": 2},
    parts: {"part_of": 3},
    apart: {"taken_apart": 1, "counts": 1},
    alike: {"leading": 2, "parting": 2},
    others: {"member": 3, "bars": 1},
    papers: {"lets_by": 2},
    texts: {"show_number": 2, "show_table": 2, "show_drawing": 1, "show_standing": 1, "read_number": 2,
            "read_drawing": 1, "read_standing": 3},
}
METHODS = {
    grounds.Ground: {"number": 2, "plus": 2, "minus": 2, "times": 2, "over": 2, "is_number": 1},
    drawings.Drawing: {"pieces": 0, "is_well": 1, "is_spring": 1, "turned": 1, "kinds": 0},
    desk.Desk: {"say": 1},
}


class Interface(unittest.TestCase):
    def places(self, thing):
        kinds = [place.kind for place in inspect.signature(thing).parameters.values()]
        self.assertTrue(all(kind == inspect.Parameter.POSITIONAL_OR_KEYWORD for kind in kinds))
        return len(kinds)

    def test_functions(self):
        for module, names in FUNCTIONS.items():
            for name, many in names.items():
                self.assertEqual(self.places(getattr(module, name)), many, name)

    def test_methods(self):
        for made, names in METHODS.items():
            for name, many in names.items():
                self.assertEqual(self.places(getattr(made, name)), many + 1, name)

    def test_objects_are_made_by_place(self):
        self.assertEqual(grounds.Ground(7).prime, 7)
        drawing = drawings.Drawing(2, [(0, 1)])
        self.assertEqual((drawing.many, drawing.arrows), (2, [(0, 1)]))
        ground = grounds.Ground(7)
        standing = standings.Standing(ground, drawing, [1, 2], [(2, 1, [[3], [4]])])
        self.assertIs(standing.ground, ground)
        self.assertIs(standing.drawing, drawing)
        self.assertEqual((standing.sizes, standing.tables), ([1, 2], [(2, 1, [[3], [4]])]))
        self.assertEqual(desk.Desk(7, "2: 0>1").say("good"), "yes")

    def test_bottom_may_be_left_out(self):
        self.assertEqual(grounds.Ground(7).number(3), grounds.Ground(7).number(3, 1))
        self.assertEqual(grounds.Ground(0).number(3), (3, 1))

    def test_errors_are_there(self):
        due = ["LimbError", "NoChange", "NoDrawing", "NoGround", "NoKind", "NoMirror", "NoName", "NoNumber", "NoRoot",
               "NoRow", "NoStanding", "NoTable", "NoText"]
        self.assertEqual(sorted(name for name in vars(errors) if not name.startswith("_")), due)


if __name__ == "__main__":
    unittest.main()
