"""What values are, where any value may be passed, and copies of them."""


def is_number(value):
    """Return whether value is an integer."""
    # Python takes True and False for integers, the document does not.
    return isinstance(value, int) and not isinstance(value, bool)


def is_pair(value):
    """Return whether value is a tuple of two parts."""
    return isinstance(value, tuple) and len(value) == 2


def is_same(value, due):
    """Return whether any value is due, which is made of tuples, strings and numbers.

    Python alone would take True for 1, at any depth.
    """
    if isinstance(due, tuple):
        if not isinstance(value, tuple) or len(value) != len(due):
            return False
        return all([is_same(part, due_part) for part, due_part in zip(value, due)])
    if is_number(due):
        return is_number(value) and value == due
    return value == due


def copied(value):
    """Return value with all lists, tuples and dicts in it made anew, at any depth."""
    if isinstance(value, list):
        return [copied(part) for part in value]
    if isinstance(value, tuple):
        return tuple([copied(part) for part in value])
    if isinstance(value, dict):
        return {key: copied(value[key]) for key in value}
    return value
