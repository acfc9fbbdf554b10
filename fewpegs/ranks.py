"""Whole numbers, and which line comes before another one."""


def is_whole(thing):
    # Python counts True and False among its ints; here they are no numbers.
    return isinstance(thing, int) and not isinstance(thing, bool)


def standing(ranks, line):
    return (ranks[line], line)


def before(ranks, one, other):
    return standing(ranks, one) < standing(ranks, other)


def in_order(ranks, lines):
    return sorted(lines, key=lambda line: standing(ranks, line))


def first_of(ranks, lines):
    return min(lines, key=lambda line: standing(ranks, line), default=None)
