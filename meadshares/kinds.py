"""What is asked of things of any kind, ahead of all that is done with them, and rising tuples."""


def is_number(thing):
    """Whether the thing is a number."""
    # Python counts True and False among the ints; here they are none.
    return isinstance(thing, int) and not isinstance(thing, bool)


def is_number_within(thing, least, most):
    """Whether the thing is a number from least to most."""
    return is_number(thing) and least <= thing <= most


def is_tuple_within(thing, least, most):
    """Whether the thing is a tuple of least to most things."""
    return isinstance(thing, tuple) and least <= len(thing) <= most


def is_pair_of_numbers(thing):
    """Whether the thing is a tuple of two numbers."""
    return is_tuple_within(thing, 2, 2) and all([is_number(number) for number in thing])


def is_rising(things):
    """Whether each of the things, all of one kind, is greater than the one ahead."""
    return all([one < other for one, other in zip(things, things[1:])])


def rising_tuples(things):
    """The rising list of all rising tuples of some of the things, which are rising themselves."""
    tuples = [()]
    for thing in reversed(things):
        # Those that begin with the thing come ahead of those that begin with a later one, () ahead of all.
        tuples = [()] + [(thing,) + some for some in tuples] + tuples[1:]
    return tuples
