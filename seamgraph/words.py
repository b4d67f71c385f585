"""The words of a document, with their places and kinds."""

from seamgraph.errors import InvalidDocument
from seamgraph.types import fits, is_name

BLANKS = " \n,"
SIGNS = "{}():=![]@"
DOTS = "..."
QUOTE = "\""
MOST_DIGITS = 10
# The only word that begins with an underscore.
TYPE_FIELD = "_type"


def split_words(text):
    """Returns the list of the words of a document: tuples (place, kind, word).

    Raises InvalidDocument at the first character that begins no word.
    """
    words = []
    place = 0
    while place < len(text):
        if text[place] in BLANKS:
            place += 1
        else:
            kind, word, end = _read_word(text, place)
            words.append((place, kind, word))
            place = end
    return words


# Each of the following functions returns the kind of the word that begins at
# a place, the word, and the place behind it.


def _read_word(text, place):
    sign = text[place]
    if sign in SIGNS:
        return ("sign", sign, place + 1)
    if text.startswith(DOTS, place):
        return ("sign", DOTS, place + len(DOTS))
    if sign == QUOTE:
        return _read_text(text, place)
    if sign == "$":
        return _read_variable(text, place)
    if sign == "-" or _is_digit(sign):
        return _read_number(text, place)
    return _read_name(text, place)


def _read_text(text, place):
    end = text.find(QUOTE, place + 1)
    word = text[place + 1 : end]
    # Line feeds do not fit Text, nor does anything else that a document must
    # not contain.
    if end < 0 or not fits("Text", word):
        raise InvalidDocument(place)
    return ("text", word, end + 1)


def _read_variable(text, place):
    end = _end_of_name(text, place + 1)
    word = text[place + 1 : end]
    if not is_name(word):
        raise InvalidDocument(place)
    return ("variable", word, end)


def _read_number(text, place):
    start = place + 1 if text[place] == "-" else place
    end = start
    while end < len(text) and _is_digit(text[end]):
        end += 1
    if not 1 <= end - start <= MOST_DIGITS:
        raise InvalidDocument(place)
    return ("number", int(text[place:end]), end)


def _read_name(text, place):
    end = _end_of_name(text, place)
    word = text[place:end]
    if word != TYPE_FIELD and not is_name(word):
        raise InvalidDocument(place)
    return ("name", word, end)


def _end_of_name(text, place):
    """Returns the first place from this one on that cannot belong to a name."""
    end = place
    while end < len(text) and _may_follow(text[end]):
        end += 1
    return end


def _may_follow(sign):
    return sign == "_" or (sign.isascii() and sign.isalnum())


def _is_digit(sign):
    return sign.isascii() and sign.isdigit()
