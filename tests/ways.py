"""All marks and all sheets of a few things, for the tests."""

import itertools


def all_marks(many):
    return [list(way) for way in itertools.product([False, True], repeat=many)]


def all_sheets(many):
    return [list(way) for way in itertools.product([False, None, True], repeat=many)]


def filled(sheet):
    """All marks that have the sheet's ins and none of its outs."""
    ways = [[False, True] if entry is None else [entry] for entry in sheet]
    return [list(way) for way in itertools.product(*ways)]
