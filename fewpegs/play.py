"""Rows of deeds, done on a board one by one."""

from fewpegs.errors import NoBar, NoDeed, NoLine, NotTop

PARTS = {"ring": 2, "calm": 2, "mute": 2, "free": 2, "bar": 2, "best": 1, "take": 1, "end": 2}


def is_deed(thing):
    if not isinstance(thing, tuple) or not thing:
        return False
    # Only a text is looked up: a list or a dict could be no key.
    return isinstance(thing[0], str) and PARTS.get(thing[0]) == len(thing)


def done(board, deed):
    name = deed[0]
    if name == "ring":
        return board.ring(deed[1])
    if name == "calm":
        return board.calm(deed[1])
    if name == "mute":
        return board.mute(deed[1])
    if name == "free":
        return board.free(deed[1])
    if name == "bar":
        return board.bar(deed[1])
    if name == "end":
        return board.end(deed[1])
    if name == "take":
        return board.take()
    return board.best()


def done_or_refused(board, deed):
    try:
        return done(board, deed)
    except NoLine:
        return ("refused", "line")
    except NoBar:
        return ("refused", "bar")
    except NotTop:
        return ("refused", "top")


def play(board, deeds):
    # All things are looked at ahead of all deeds, so that a refused row changes nothing.
    for place, thing in enumerate(deeds):
        if not is_deed(thing):
            raise NoDeed(place)
    return [done_or_refused(board, deed) for deed in deeds]
