"""What all parts of the program ask for: the kinds of values, and halves up."""

FIGURES = "0123456789"
# The one sign between the first and the last sign of words that stands in none of them, by its number.
PERCENT = 37


def is_whole(thing):
    # To Python a truth is an int, too; here it is none.
    return isinstance(thing, int) and not isinstance(thing, bool)


def is_name(thing):
    if not isinstance(thing, str) or not 1 <= len(thing) <= 8:
        return False
    return all(["a" <= sign <= "z" for sign in thing])


def are_words(thing):
    return isinstance(thing, str) and all([is_word(part) for part in thing.split(" ")])


def is_word(text):
    return 1 <= len(text) <= 30 and all([is_word_sign(sign) for sign in text])


def is_word_sign(sign):
    return "!" <= sign <= "~" and ord(sign) != PERCENT


def are_figures(text):
    # Python's own isdigit takes figures beyond ASCII, too.
    return text != "" and all([sign in FIGURES for sign in text])


def nearest(top, bottom):
    # Floor division goes down below 0, too, so a half goes up everywhere.
    return (2 * top + bottom) // (2 * bottom)
