"""The rings of turnings, what they tell of them, and the texts that write them."""

from math import lcm

from turnkin.checks import check_size, is_whole
from turnkin.errors import BadNumber, BadText
from turnkin.turnings import behind, check_turning, staying

STAYING_TEXT = "()"


def _ring_from(turning, start):
    """The places to which one comes from the start, one by one, till it comes again."""
    ring = [start]
    place = turning[start]
    while place != start:
        ring.append(place)
        place = turning[place]
    return ring


def rings(turning):
    """The rings of two places and more, each from its least place on, by rising least places."""
    check_turning(turning)
    told = []
    seen = set()
    for start in range(len(turning)):
        if start not in seen and turning[start] != start:
            ring = _ring_from(turning, start)
            told.append(ring)
            for place in ring:
                seen.add(place)
    return told


def is_even(turning):
    """Whether the places in the told rings, less one for each ring, are even in number."""
    return sum([len(ring) - 1 for ring in rings(turning)]) % 2 == 0


def order(turning):
    """The least number above 0 of times that the turning has to be done till it stays."""
    many = 1
    for ring in rings(turning):
        many = lcm(many, len(ring))
    return many


def times(turning, many):
    """The turning done many times; below 0 its back is done so often."""
    check_turning(turning)
    if not is_whole(many):
        raise BadNumber("a number of times is a whole number")
    done = staying(len(turning))
    # Done as often as its order it stays, so only what is left over counts; for a number
    # below 0 as well, as what is left over is never below 0.
    for _ in range(many % order(turning)):
        done = behind(done, turning)
    return done


def text_of(turning):
    """The text that writes the turning by its rings."""
    pieces = []
    for ring in rings(turning):
        places = " ".join([str(place) for place in ring])
        pieces.append(f"({places})")
    if not pieces:
        return STAYING_TEXT
    return "".join(pieces)


def _read_ring(size, piece):
    """The places that stand between the two brackets of a ring."""
    names = [str(place) for place in range(size)]
    signs = piece.split(" ")
    # A blank too many leaves an empty sign, and that is no place's name either.
    if len(signs) < 2 or not all([sign in names for sign in signs]):
        raise BadText("a ring has two places and more, a blank between two")
    return [names.index(sign) for sign in signs]


def _read_rings(size, text):
    """The rings in the order in which they are written."""
    if not text.startswith("(") or not text.endswith(")"):
        raise BadText("a text begins and ends with a ring")
    # A bracket that stands anywhere else is left in a piece, where it is no place's name.
    return [_read_ring(size, piece) for piece in text[1:-1].split(")(")]


def read_turning(size, text):
    """The turning of the size that the text writes."""
    check_size(size)
    if type(text) != str:
        raise BadText("what is read is a text")
    if text == STAYING_TEXT:
        return staying(size)
    read = _read_rings(size, text)
    places = [place for ring in read for place in ring]
    if len(set(places)) != len(places):
        raise BadText("each place stands once")
    leads = list(range(size))
    for ring in read:
        for place, target in zip(ring, ring[1:] + ring[:1]):
            leads[place] = target
    return tuple(leads)
