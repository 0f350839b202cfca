"""The errors [0.5]."""

import unittest

from pressedwords import errors

PARAMETERS = {
    "BadBook": "what", "BadLetters": "", "BadSaying": "what", "BadText": "line place", "BadExpression": "what",
    "TooMany": "", "BadStep": "", "BadEquation": "at what", "BadOrder": "", "BadRoom": "", "NotFilled": "",
    "Ended": "how", "NoBook": "number", "NotOpen": "number", "NotLooked": "number", "TooFull": "waiting",
    "BadMany": "", "NoHand": "hand", "Busy": "hand", "Idle": "hand", "NoReport": "report", "BadGrammar": "at",
    "NoSymbol": "symbol", "NoSign": "at", "TooLong": "length", "EmptyWord": "", "NoCut": "begin end",
    "BadFilling": "at", "NoName": "name", "NotShut": "", "OtherDeeds": "", "BadPaperText": "", "TooWide": "what",
    "BadScript": "what road", "ShortInputs": "used", "NoIf": "road", "NoWay": "turns", "UnlikeScripts": "",
    "BadDeed": "what", "FullDesk": "", "NoBack": "", "IsCut": "", "NotCut": "", "NoEngine": "", "NoPaper": "at",
    "NoScript": "", "NoStatement": "road",
}


class ErrorsTest(unittest.TestCase):
    def test_all_classes_of_the_list_are_there_and_no_others(self):
        there = {name for name, thing in vars(errors).items() if isinstance(thing, type)}
        self.assertEqual(there, set(PARAMETERS) | {"PressError"})

    def test_each_stands_straight_under_the_base(self):
        self.assertEqual(errors.PressError.__bases__, (ValueError,))
        for name in PARAMETERS:
            kind = getattr(errors, name)
            self.assertEqual(kind.__bases__, (errors.PressError,), name)
            self.assertEqual(kind.__module__, "pressedwords.errors")

    def test_attributes_are_the_parameters_with_any_values(self):
        for name, words in PARAMETERS.items():
            kind = getattr(errors, name)
            names = words.split()
            for values in ([object(), [1, []]], [None, ("a", 2)], [True, {}], ["text", -3]):
                values = values[:len(names)]
                for error in (kind(*values), kind(**dict(zip(names, values)))):
                    self.assertEqual(list(vars(error)), names, name)
                    for attribute, value in zip(names, values):
                        self.assertIs(getattr(error, attribute), value)

    def test_each_is_raised_and_caught_as_itself_alone(self):
        for name, words in PARAMETERS.items():
            error = getattr(errors, name)(*words.split())
            self.assertIsInstance(error, errors.PressError)
            self.assertIsInstance(error, ValueError)
            for other in PARAMETERS:
                self.assertEqual(isinstance(error, getattr(errors, other)), name == other)
            with self.assertRaises(getattr(errors, name)) as caught:
                raise error
            self.assertIs(caught.exception, error)


if __name__ == "__main__":
    unittest.main()
