"""Names of classes."""

GREAT_LETTERS = "ABCDEFGHIJKLMNOPQRSTUVWXYZ"


def are_names(thing, most):
    """Tell whether a thing is a text of at most so many unlike names; the empty one is."""
    if not isinstance(thing, str) or len(thing) > most:
        return False
    return thing.strip(GREAT_LETTERS) == "" and len(set(thing)) == len(thing)


def is_name(thing):
    """Tell whether a thing is the name of one class."""
    return are_names(thing, 1) and thing != ""
