"""What all files of the package ask of a thing of any kind that is handed in."""


def is_whole(thing):
    """Tell whether the thing is a whole number: an int that is no truth."""
    return isinstance(thing, int) and not isinstance(thing, bool)


def is_up_to(thing, most):
    """Tell whether the thing is a whole number from 0 to most (from 0 on where most is None)."""
    if not is_whole(thing) or thing < 0:
        return False
    return most is None or thing <= most


def is_tuple_of(thing, many):
    """Tell whether the thing is a tuple of so many things, of whatever kind."""
    return isinstance(thing, tuple) and len(thing) == many


def are_up_to(thing, many, most):
    """Tell whether the thing is a tuple of so many whole numbers, each as is_up_to asks."""
    if not isinstance(thing, tuple) or len(thing) != many:
        return False
    for number in thing:
        # Nearly all that is looked at is a plain int, and its kind by itself tells so soonest.
        if type(number) is not int and not is_whole(number):
            return False
        if number < 0:
            return False
    return most is None or max(thing) <= most
