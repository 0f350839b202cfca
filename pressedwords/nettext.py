"""The printed form of nets [10.1, 10.2]."""

from pressedwords.booktext import book_text, read_book, read_whole
from pressedwords.errors import BadOrder, BadRoom, BadText
from pressedwords.nets import ORDERS, Net, check_order, check_room


def net_text(net):
    """The net as lines."""
    order = [net.order] if isinstance(net.order, str) else numbers_words(net.order)
    way = "backward" if net.backward else "forward"
    lines = [["net"] + order + ["room", str(net.room), way, "looks", str(net.looks)]]
    for number, book in enumerate(net.books):
        lines.append(["book", str(number)] + way_words(net, number))
        lines.append([book_text(book)])
    lines.append(["roots"] + ["-" if number is None else str(number) for number in net.rooted])
    lines.append(["borrowed"] + numbers_words(net.borrowed))
    lines.append(["looked"] + numbers_words(net.looked))
    for number in sorted(net.found):
        many, couples = net.found[number]
        lines.append(["look", str(number), str(many)] + [str(part) for couple in couples for part in couple])
    return "\n".join([" ".join(words) for words in lines] + ["end"])


def numbers_words(numbers):
    return [str(number) for number in numbers]


def way_words(net, number):
    way = net.way_to(number)
    return ["from"] + numbers_words(way[-1]) if way else ["root"]


def read_net(text, lot, known=()):
    """The net that is printed in this way, which goes on as that one."""
    lines = [line.split(" ") for line in text.split("\n")]
    order, room, backward, looks = read_head(lines[0])
    net = Net((), lot, order, room=room, backward=backward, known=known)
    fresh, at = read_books(lines, room, lot)
    rooted = read_roots(lines, at, len([way for _, way in fresh if way is None]))
    # Only books with rows are borrowed or looked at.
    full = {number: True for number, (book, _) in enumerate(fresh) if book.rows}
    lent = read_numbers(lines, at + 1, "borrowed", full)
    if any([lent[place - 1] >= lent[place] for place in range(1, len(lent))]):
        raise BadText(at + 1, 0)
    looked = read_numbers(lines, at + 2, "looked", {number: True for number in full if number not in lent})
    if len(set(looked)) < len(looked) or len(looked) > looks:
        raise BadText(at + 2, 0)
    looked_at = {}
    for place, number in enumerate(sorted(looked)):
        looked_at[number] = read_look(lines, at + 3 + place, number, len(fresh))
    read_end(lines, at + 3 + len(looked))
    net.put_back(fresh, rooted, lent, {number: looked_at[number] for number in looked}, looks)
    return net


def words_at(lines, at, word):
    """The words behind the first one of this line, which has to be there and to begin with this word."""
    if at >= len(lines) or lines[at][0] != word:
        raise BadText(at, 0)
    return lines[at][1:]


def read_head(words):
    """The order, the room, whether the net is backward, and the looks, from the first line."""
    if len(words) < 7 or words[0] != "net" or words[-5] != "room" or words[-2] != "looks":
        raise BadText(0, 0)
    order = words[1] if words[1:-5] in [[word] for word in ORDERS] else wholes(words[1:-5])
    looks = read_whole(words[-1])
    if looks is None or words[-3] not in ("forward", "backward"):
        raise BadText(0, 0)
    try:
        return check_order(order), check_room(read_whole(words[-4])), words[-3] == "backward", looks
    except (BadOrder, BadRoom):
        raise BadText(0, 0) from None


def wholes(words):
    """The numbers of number words, with None for each other word."""
    return [read_whole(word) for word in words]


def read_books(lines, room, lot):
    """The listed books, each beside its way, and the place of the line behind them."""
    fresh = []
    met = {}
    at = 1
    while at < len(lines) and lines[at][0] == "book":
        rooted = all([way is None for _, way in fresh])
        way = read_way(lines[at], at, len(fresh), room, rooted)
        end = at + 1
        while end < len(lines) and lines[end][0] not in ("book", "roots"):
            end += 1
        book = read_lines(lines, at + 1, end)
        if book.states != lot.states or book.key in met:
            raise BadText(at, 0)
        met[book.key] = True
        fresh.append((book, way))
        at = end
    return fresh, at


def read_way(words, at, number, room, rooted):
    """The way that a book's line tells, None for a root book; rooted is whether a root book may stand here."""
    if len(words) < 3 or read_whole(words[1]) != number or number >= room:
        raise BadText(at, 0)
    if words[2:] == ["root"] and rooted:
        return None
    if len(words) != 5 or words[2] != "from":
        raise BadText(at, 0)
    ahead, place = wholes(words[3:])
    if ahead is None or place is None or ahead >= number:
        raise BadText(at, 0)
    return (ahead, place)


def read_lines(lines, begin, end):
    """The book whose lines these are."""
    try:
        return read_book("\n".join([" ".join(words) for words in lines[begin:end]]))
    except BadText as misfit:
        raise BadText(begin + misfit.line, 0) from None


def read_roots(lines, at, many):
    """For each root its book's number or None; each of so many root books stands there, first ones ascending."""
    words = words_at(lines, at, "roots")
    rooted = [None if word == "-" else read_whole(word) for word in words]
    met = {}
    for word, number in zip(words, rooted):
        if number is None and word != "-":
            raise BadText(at, 0)
        if number is not None and number not in met:
            met[number] = True
    if list(met) != list(range(many)):
        raise BadText(at, 0)
    return tuple(rooted)


def read_numbers(lines, at, word, allowed):
    """The numbers behind this word, each of them one that is allowed."""
    numbers = wholes(words_at(lines, at, word))
    if not all([number in allowed for number in numbers]):
        raise BadText(at, 0)
    return numbers


def read_look(lines, at, number, listed):
    """How many outcomes a look has, and the couples (place, number) of those that are books."""
    words = words_at(lines, at, "look")
    numbers = wholes(words)
    if len(words) < 2 or len(words) & 1 or None in numbers or numbers[0] != number:
        raise BadText(at, 0)
    many = numbers[1]
    couples = tuple([(numbers[place], numbers[place + 1]) for place in range(2, len(numbers), 2)])
    ascending = all([couples[place - 1][0] < couples[place][0] for place in range(1, len(couples))])
    if not ascending or not all([place < many and told < listed for place, told in couples]):
        raise BadText(at, 0)
    return many, couples


def read_end(lines, at):
    """Asks for the last line, behind which nothing stands."""
    if words_at(lines, at, "end"):
        raise BadText(at, 0)
    if at + 1 < len(lines):
        raise BadText(at + 1, 0)
