"""Deeds of a desk: what may be done at it [16.1]."""

from pressedwords.books import is_sequence, is_whole
from pressedwords.errors import BadDeed

ITEMS = {"say": 2, "back": 1, "solve": 2, "cut": 1, "go on": 1, "forget": 2, "hands": 3, "follows": 2, "script": 2,
         "way": 2, "stops": 2, "same": 2}
EDITS = {"new": 2, "put in": 3, "take out": 2, "turn": 2}
MOST_STEPS = 400
GREATEST_PLACE = 10 ** 9 - 1
MOST_HANDS = 6
MOST_PICKS = 60
MOST_TURNS = 24
GREATEST_STOP = 99
LONGEST_ROAD = 9


def check_deed(thing):
    """The deed as a tuple; what it says and its statements stay as they are."""
    if not is_sequence(thing) or len(thing) == 0 or not isinstance(thing[0], str) or thing[0] not in ITEMS:
        raise BadDeed("deed")
    word = thing[0]
    if len(thing) != ITEMS[word]:
        raise BadDeed("many")
    if word == "hands":
        return (word, whole_in(thing[1], 1, MOST_HANDS), wholes_in(thing[2], MOST_PICKS, GREATEST_PLACE))
    return (word,) + tuple([checked_field(word, field) for field in thing[1:]])


def checked_field(word, field):
    """The one field of a deed that begins with this word."""
    if word == "solve":
        return whole_in(field, 1, MOST_STEPS)
    if word == "forget":
        return whole_in(field, 0, GREATEST_PLACE)
    if word == "way":
        return wholes_in(field, MOST_TURNS, 1)
    if word == "stops":
        return None if field is None else whole_in(field, 0, GREATEST_STOP)
    return checked_edit(field) if word == "script" else field


def checked_edit(thing):
    """The edit of a script as a tuple."""
    if not is_sequence(thing) or len(thing) == 0 or not isinstance(thing[0], str) or thing[0] not in EDITS:
        raise BadDeed("field")
    if len(thing) != EDITS[thing[0]]:
        raise BadDeed("field")
    if thing[0] == "new":
        return ("new", thing[1])
    road = wholes_in(thing[1], LONGEST_ROAD, GREATEST_PLACE)
    if len(road) == 0:
        raise BadDeed("field")
    return (thing[0], road) + tuple(list(thing[2:]))


def whole_in(thing, least, greatest):
    """The whole number, which has to be from least to greatest."""
    if not is_whole(thing) or not least <= thing <= greatest:
        raise BadDeed("field")
    return thing


def wholes_in(thing, many, greatest):
    """The whole numbers from 0 to greatest, at most so many, as a tuple."""
    if not is_sequence(thing) or len(thing) > many:
        raise BadDeed("field")
    return tuple([whole_in(number, 0, greatest) for number in thing])
