"""Deeds of a desk [16.1]."""

import unittest

from pressedwords.deskdeeds import check_deed
from pressedwords.errors import BadDeed
from tests.helpers import Alien, as_lists, caught, holds_list

BIG = 10 ** 9 - 1
RIGHT = (
    ("say", ("alike", (), ())), ("back",), ("solve", 1), ("solve", 400), ("cut",), ("go on",), ("forget", 0), ("forget", BIG),
    ("hands", 1, ()), ("hands", 6, (0, BIG) * 30), ("follows", ("in", (), ("any",))), ("script", ("new", (("stop", 1),))),
    ("script", ("put in", (0,), ("stop", 1))), ("script", ("put in", (0, 1, BIG), ("stop", 1))),
    ("script", ("take out", (1, 2, 3, 4, 5, 6, 7, 8, 9))), ("script", ("turn", (0,))), ("way", ()), ("way", (0, 1) * 12),
    ("stops", None), ("stops", 0), ("stops", 99), ("same", ()), ("same", (("stop", 1),)),
)


class DeedTest(unittest.TestCase):
    def test_right_ones(self):
        for deed in RIGHT:
            self.assertEqual(check_deed(deed), deed)
            self.assertIs(type(check_deed(deed)), tuple)

    def test_tuples_of_lists(self):
        for deed in RIGHT:
            if deed[0] not in ("say", "follows", "same"):
                told = check_deed(as_lists(deed))
                if deed[0] == "script" and deed[1][0] in ("new", "put in"):
                    self.assertEqual(told[1][:-1], deed[1][:-1])
                    self.assertFalse(holds_list((told[1][:-1], (type(told), type(told[1])))))
                else:
                    self.assertEqual(told, deed)
                    self.assertFalse(holds_list(told))

    def test_sayings_and_statements_stay_the_very_things(self):
        thing = Alien(word="any")
        for deed in (("say", thing), ("follows", thing), ("same", thing)):
            self.assertIs(check_deed(list(deed))[1], thing)
        self.assertIs(check_deed(["script", ["new", thing]])[1][1], thing)
        self.assertIs(check_deed(["script", ["put in", [0], thing]])[1][2], thing)
        wrong = [["stop"]]
        self.assertIs(check_deed(("say", wrong))[1], wrong)

    def test_no_deed(self):
        for thing in (None, 1, "say", (), [], {}, ("says",), (None,), (["say"],), (b"cut",), ("go",), ("go", "on"), ("Say", 1),
                      (("say",), 1), (1, 2)):
            self.assertEqual(caught(BadDeed, check_deed, thing), ("deed",), thing)

    def test_many(self):
        for deed in RIGHT:
            self.assertEqual(caught(BadDeed, check_deed, deed + (None,)), ("many",))
            if len(deed) > 1:
                self.assertEqual(caught(BadDeed, check_deed, deed[:-1]), ("many",))
        # The number of items comes ahead of each of them.
        self.assertEqual(caught(BadDeed, check_deed, ("hands", 7)), ("many",))

    def test_field(self):
        wholes = (None, True, False, "1", (1,), 1.0, -1)
        for field in wholes + (0, 401):
            self.assertEqual(caught(BadDeed, check_deed, ("solve", field)), ("field",), field)
        for field in wholes + (10 ** 9,):
            self.assertEqual(caught(BadDeed, check_deed, ("forget", field)), ("field",), field)
            self.assertEqual(caught(BadDeed, check_deed, ("hands", 1, (0, field))), ("field",), field)
            self.assertEqual(caught(BadDeed, check_deed, ("script", ("turn", (0, field)))), ("field",), field)
        for field in wholes + (0, 7):
            self.assertEqual(caught(BadDeed, check_deed, ("hands", field, ())), ("field",), field)
        for field in (None, 1, "", {}, (0,) * 61):
            self.assertEqual(caught(BadDeed, check_deed, ("hands", 1, field)), ("field",), field)
        for field in (None, 1, "", {0}, (0,) * 25, (2,), (True,), (0, None), (-1,)):
            self.assertEqual(caught(BadDeed, check_deed, ("way", field)), ("field",), field)
        for field in wholes[1:] + (100,):
            self.assertEqual(caught(BadDeed, check_deed, ("stops", field)), ("field",), field)

    def test_edits(self):
        for edit in (None, 1, "new", (), ("new",), ("new", (), ()), ("put in", (0,)), ("put in", (0,), 1, 2), ("take out",),
                     ("take out", (0,), 1), ("turn",), ("turn", (0,), 0), ("old", ()), ("put", (0,), 1), (["turn"], (0,)), (None, (0,))):
            self.assertEqual(caught(BadDeed, check_deed, ("script", edit)), ("field",), edit)
        for road in (None, 1, "0", (), [], (0,) * 10, {0: 0}):
            for edit in (("put in", road, ("stop", 1)), ("take out", road), ("turn", road)):
                self.assertEqual(caught(BadDeed, check_deed, ("script", edit)), ("field",), edit)


if __name__ == "__main__":
    unittest.main()
