"""Formulas of councils: read by words, and told again."""

from roundorlist.errors import NoName, TooDeep, Twice
from roundorlist.words import is_figure_word, is_name

MOST_OPEN = 30
STAND_WORDS = ("over", "level", "under")
STANDS = {"over": 1, "level": 0, "under": -1}
WORDS_OF_STANDS = {1: "over", 0: "level", -1: "under"}
COMPARED = ("<", "=", ">")

# What is put into brackets where it is a part of the first one.
IN_BRACKETS = {"and": ("or", "and"), "or": ("or",), "not": ("or", "and")}


class FormulaReader:
    """One whole formula, read from words; numbers tells the number of each name that can stand in it."""

    def __init__(self, words, numbers, n):
        self._words = words
        self._numbers = numbers
        self._all = tuple([(member, 1) for member in range(n)])
        # How many nots and brackets are open.
        self._open = 0

    def formula(self):
        """And-parts with "or" between them."""
        parts = [self.and_part()]
        while self._words.word() == "or":
            self._words.take()
            parts.append(self.and_part())
        if len(parts) == 1:
            return parts[0]
        return ("or", tuple(parts))

    def and_part(self):
        """Units with "and" between them."""
        parts = [self.unit()]
        while self._words.word() == "and":
            self._words.take()
            parts.append(self.unit())
        if len(parts) == 1:
            return parts[0]
        return ("and", tuple(parts))

    def unit(self):
        """A name and a stand, a not, a formula in brackets, or two counts that are compared."""
        word = self._words.word()
        if is_name(word):
            who = self.named({})
            return ("is", who, STANDS[self._words.one_of(STAND_WORDS)])
        if word == "not":
            self.begin()
            inner = ("not", self.unit())
        elif word == "(":
            self.begin()
            inner = self.formula()
            self._words.one_of((")",))
        else:
            return self.compared()
        self._open -= 1
        return inner

    def begin(self):
        """Read a not or a bracket, which is open from now on."""
        if self._open == MOST_OPEN:
            raise TooDeep(self._words.place())
        self._words.take()
        self._open += 1

    def named(self, ahead):
        """The number of the name that is read next, which is none of those ahead."""
        name = self._words.ask_name()
        if name not in self._numbers:
            raise NoName(self._words.place())
        if self._numbers[name] in ahead:
            raise Twice(self._words.place())
        self._words.take()
        return self._numbers[name]

    def compared(self):
        """Two counts with a sign between them."""
        one = self.counted()
        sign = self._words.one_of(COMPARED)
        two = self.counted()
        if sign == "=":
            return ("same", one, two)
        if sign == "<":
            return ("less", one, two)
        return ("less", two, one)

    def counted(self):
        """A figure word, or a stand with its voters."""
        if is_figure_word(self._words.word()):
            return ("number", int(self._words.take()))
        stand = STANDS[self._words.one_of(STAND_WORDS)]
        if self._words.word() != "of":
            return ("votes", stand, self._all)
        self._words.take()
        return ("votes", stand, self.voters())

    def voters(self):
        """The voters in their brackets, each with its weight."""
        self._words.one_of(("(",))
        weights = {}
        follows = ","
        while follows == ",":
            who = self.named(weights)
            weights[who] = 1
            if is_figure_word(self._words.word()):
                weights[who] = int(self._words.take())
            follows = self._words.one_of((",", ")"))
        return tuple(weights.items())


def count_words(count, names, n):
    """The words of a count."""
    if count[0] == "number":
        return [str(count[1])]
    _, stand, voters = count
    words = [WORDS_OF_STANDS[stand]]
    if voters == tuple([(member, 1) for member in range(n)]):
        return words
    words.extend(["of", "("])
    for who, weight in voters:
        words.append(names[who])
        if weight != 1:
            words.append(str(weight))
        words.append(",")
    # The last comma gives way to the bracket.
    words[-1] = ")"
    return words


def part_words(part, outer, names, n):
    """The words of a part of a formula of the outer kind, in brackets where they are needed."""
    words = formula_words(part, names, n)
    if part[0] in IN_BRACKETS[outer]:
        return ["("] + words + [")"]
    return words


def formula_words(formula, names, n):
    """The words of a formula; the names are those of the n members, then those of the chambers."""
    kind = formula[0]
    if kind == "is":
        return [names[formula[1]], WORDS_OF_STANDS[formula[2]]]
    if kind == "not":
        return ["not"] + part_words(formula[1], kind, names, n)
    if kind == "less":
        return count_words(formula[1], names, n) + ["<"] + count_words(formula[2], names, n)
    if kind == "same":
        return count_words(formula[1], names, n) + ["="] + count_words(formula[2], names, n)
    words = part_words(formula[1][0], kind, names, n)
    for part in formula[1][1:]:
        words.append(kind)
        words.extend(part_words(part, kind, names, n))
    return words
