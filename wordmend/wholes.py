"""Whole numbers."""


def is_whole(thing, least, most=None):
    """Tell whether a thing is a whole number from least on, and up to most where that is told."""
    # Python counts True and False among the integers, this program doesn't.
    if not isinstance(thing, int) or isinstance(thing, bool):
        return False
    return thing >= least and (most is None or thing <= most)
