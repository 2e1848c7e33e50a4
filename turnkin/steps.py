"""Steps: tuples that make turnings out of a few, each by its word."""

from turnkin.checks import check_size, is_whole
from turnkin.errors import BadStep
from turnkin.few import check_few
from turnkin.turnings import back, behind, staying

# Each word with how many places stand behind it.
WORDS = {"stay": 0, "few": 1, "back": 1, "behind": 2}


def _is_step(step, place, many):
    """Whether this is a step that may stand at the place, out of so many of the few."""
    if type(step) != tuple or len(step) == 0:
        return False
    word = step[0]
    if type(word) != str or word not in WORDS or len(step) - 1 != WORDS[word]:
        return False
    # One of the few is named by its place there, all else by the place of an earlier step.
    end = many if word == "few" else place
    return all([is_whole(part) and 0 <= part < end for part in step[1:]])


def _turning_of(step, size, few, told):
    """The turning that the step makes, out of the few and of what earlier steps made."""
    word = step[0]
    if word == "few":
        return few[step[1]]
    if word == "back":
        return back(told[step[1]])
    if word == "behind":
        return behind(told[step[1]], told[step[2]])
    return staying(size)


def made(size, few, steps):
    """The turnings that the steps make out of the few."""
    check_size(size)
    check_few(size, few)
    if type(steps) not in (list, tuple):
        raise BadStep(0)
    told = []
    for place, step in enumerate(steps):
        if not _is_step(step, place, len(few)):
            raise BadStep(place)
        told.append(_turning_of(step, size, few, told))
    return told


def _earlier(step):
    """The places of the earlier steps that the step names."""
    return () if step[0] == "few" else step[1:]


def _moved(step, places):
    """The step where each earlier step stands at its new place."""
    if step[0] == "few":
        return step
    return (step[0], *[places[place] for place in step[1:]])


def only_needed(steps, last):
    """The step at the last place and all that it is made of, and no other ones."""
    needed = set()
    needed.add(last)
    # Steps name earlier ones alone: from the last one back, who needs a step is met ahead of it.
    for place in range(last, -1, -1):
        if place in needed:
            for earlier in _earlier(steps[place]):
                needed.add(earlier)
    left = sorted(needed)
    places = {place: at for at, place in enumerate(left)}
    return [_moved(steps[place], places) for place in left]
