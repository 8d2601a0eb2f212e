"""What values are, where any value may be passed, and copies of them."""


def is_number(value):
    """Return whether value is an integer."""
    # Python takes True and False for integers, the document does not.
    return isinstance(value, int) and not isinstance(value, bool)


def is_pair(value):
    """Return whether value is a tuple of two parts."""
    return isinstance(value, tuple) and len(value) == 2


def copied(value):
    """Return value with all lists, tuples and dicts in it made anew, at any depth."""
    if isinstance(value, list):
        return [copied(part) for part in value]
    if isinstance(value, tuple):
        return tuple([copied(part) for part in value])
    if isinstance(value, dict):
        return {key: copied(value[key]) for key in value}
    return value
