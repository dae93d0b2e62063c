"""What can be looked at whatever it is: shapes that papers and blocks are made of."""


def is_tuple(worth):
    """Whether it is a tuple."""
    return type(worth) == tuple


def is_integer(worth):
    """Whether it is an integer."""
    # True and False are equal to 1 and 0, but they are no integers.
    return type(worth) == int


def is_train(table, worth):
    """Whether it is one of the trains that have steps told."""
    return is_tuple(worth) and all([is_integer(number) for number in worth]) and worth in table


def are_trains(table, worth):
    """Whether it is a tuple of trains that have steps told."""
    return is_tuple(worth) and all([is_train(table, train) for train in worth])
