"""Things that are of no kind that the program asks for, and texts that are wrong by one sign."""


class Hostile:
    def __eq__(self, other):
        raise RuntimeError("not to be asked")

    __hash__ = None
    __len__ = __iter__ = __repr__ = __str__ = __eq__
    __lt__ = __le__ = __gt__ = __ge__ = __bool__ = __getitem__ = __eq__


def in_each_place(things, thing):
    """The tuple with the thing in the place of each of its own things, in turn."""
    return [things[:place] + (thing,) + things[place + 1:] for place in range(len(things))]


def no_texts():
    """None of these is a text, a tuple with more than one thing, or a list of tuples."""
    itself = []
    itself.append(itself)
    return [None, 0, 1, -1, 10 ** 18, 10 ** 5000, True, False, b"", b"00:00:00.000", (), (0,), ("00:00:00.000",),
            [0], ["00:00:00.000"], [None], [[]], {}, {0: 0}, {0, 1}, range(4), iter(()), object(), Hostile(), [Hostile()],
            int, str, len, itself]


def wrong_by_a_sign(text, signs):
    """Each text that is made of the text by one sign more, less, doubled, changed or turned with the next one."""
    made = []
    for place in range(len(text) + 1):
        ahead, behind = text[:place], text[place:]
        made += [ahead + sign + behind for sign in signs]
        if behind:
            made += [ahead + behind[1:], ahead + behind[0] + behind]
            made += [ahead + sign + behind[1:] for sign in signs]
        if len(behind) > 1:
            made += [ahead + behind[1] + behind[0] + behind[2:]]
    return [other for other in dict.fromkeys(made) if other != text]
