"""Texts, the words in them, and how words are told."""

from roundorlist.errors import BadText

MOST_SIGNS = 20000
MOST_FIGURES = 6
LONGEST_NAME = 12
LETTERS = "abcdefghijklmnopqrstuvwxyz"
FIGURES = "0123456789"
KEPT_WORDS = (
    "members", "chamber", "wins", "if", "or", "and", "not", "over", "level", "under", "of", "none", "up", "down",
)

# What stands between two words in a text that is told: a blank, but not ahead of these, and not behind that one.
NONE_AHEAD = (";", ",", ":", ")")
NONE_BEHIND = "("


def text_fault(thing):
    """What BadText tells of thing, None if it is a text that can be read."""
    if not isinstance(thing, str):
        return -1
    for index, sign in enumerate(thing[:MOST_SIGNS]):
        if not " " <= sign <= "~":
            return index
    if len(thing) > MOST_SIGNS:
        return MOST_SIGNS
    return None


def ask_text(thing):
    """What the mark (text) stands for."""
    fault = text_fault(thing)
    if fault is not None:
        raise BadText(fault)


def is_word_sign(sign):
    """Whether the sign makes one word with others like it that stand beside it."""
    return sign in LETTERS or sign in FIGURES


def is_name(thing):
    """Whether thing is a name."""
    if not isinstance(thing, str) or not 1 <= len(thing) <= LONGEST_NAME or thing in KEPT_WORDS:
        return False
    return thing[0] in LETTERS and all([is_word_sign(sign) for sign in thing])


def are_figures(word):
    """Whether the word has nothing but figures, one at least, and no 0 ahead of others."""
    if len(word) == 0 or not all([sign in FIGURES for sign in word]):
        return False
    return word == "0" or word[0] != "0"


def is_figure_word(word):
    """Whether the word is a number as it stands in a text that is read by words."""
    return len(word) <= MOST_FIGURES and are_figures(word)


def words_of(text):
    """The words of a text, each with its place."""
    found = []
    begin = 0
    for place, sign in enumerate(text):
        if is_word_sign(sign):
            continue
        # The word that ends here, if there is one, and the sign itself, if it is no blank.
        if begin < place:
            found.append((text[begin:place], begin))
        if sign != " ":
            found.append((sign, place))
        begin = place + 1
    if begin < len(text):
        found.append((text[begin:], begin))
    return found


class Words:
    """The words of a text, read one behind another from the left."""

    def __init__(self, text):
        # No word is empty, so the empty one tells that the text has come to its end.
        self._words = words_of(text) + [("", len(text))]
        self._at = 0

    def word(self):
        """The word that is to be read next."""
        word, _ = self._words[self._at]
        return word

    def place(self):
        """The place of this word."""
        _, place = self._words[self._at]
        return place

    def take(self):
        """Read this word, which is not the end."""
        word = self.word()
        self._at += 1
        return word

    def one_of(self, words):
        """Read this word, which must be one of the given ones."""
        if self.word() not in words:
            raise BadText(self.place())
        return self.take()

    def ask_name(self):
        """The next word, not read yet, which must be a name."""
        if not is_name(self.word()):
            raise BadText(self.place())
        return self.word()

    def ask_end(self):
        """The text must have come to its end."""
        if self.word() != "":
            raise BadText(self.place())


def told_words(words):
    """The text of these words."""
    parts = []
    behind = NONE_BEHIND
    for word in words:
        if behind != NONE_BEHIND and word not in NONE_AHEAD:
            parts.append(" ")
        parts.append(word)
        behind = word
    return "".join(parts)
