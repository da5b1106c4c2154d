"""The kinds of values that all parts of the program ask for."""


def is_whole(thing):
    # To Python a truth is an int, too; here it is none.
    return isinstance(thing, int) and not isinstance(thing, bool)
