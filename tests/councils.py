"""Councils for the tests: made by chance, and read, told and evaluated plainly, without the package."""

from common import name_told, words_told

SIGN = {"over": 1, "level": 0, "under": -1}
WORD = {1: "over", 0: "level", -1: "under"}


class Wrong(Exception):
    """The name of the error, and its what, as arguments."""


def figures_told(word):
    return word.isdigit() and len(word) <= 6 and (word == "0" or word[0] != "0")


class Reader:
    """A reader with its own stack in the place of calls within calls."""

    def __init__(self, text):
        self.words = words_told(text)

    def wrong(self, name):
        raise Wrong(name, self.words[0][1])

    def take(self, *let):
        if self.words[0][0] == "" or let and self.words[0][0] not in let:
            self.wrong("BadText")
        return self.words.pop(0)[0]

    def name(self):
        if not name_told(self.words[0][0]):
            self.wrong("BadText")
        return self.words[0][0]

    def new_name(self, many, known):
        name = self.name()
        if many == 6:
            self.wrong("TooMany")
        if name in known:
            self.wrong("Twice")
        return self.take()

    def who(self, known):
        if self.name() not in known:
            self.wrong("NoName")
        return known.index(self.name())

    def council(self):
        self.take("members")
        names, chambers = [self.new_name(0, [])], []
        while self.take(",", ";") == ",":
            names.append(self.new_name(len(names), names))
        while self.take("chamber", "wins") == "chamber":
            known = names + [name for name, _ in chambers]
            name = self.new_name(len(chambers), known)
            self.take(":")
            chambers.append((name, self.formula(known, len(names))))
            self.take(";")
        self.take("if")
        wins = self.formula(names + [name for name, _ in chambers], len(names))
        if self.words[0][0] != "":
            self.wrong("BadText")
        return (tuple(names), tuple(chambers), wins)

    def formula(self, known, n):
        # Of each bracket that is open, and of the whole: how many nots wait for the next unit, and the or-parts.
        stack, opened = [[0, [[]]]], 0
        while True:
            word = self.words[0][0]
            if word in ("not", "("):
                if opened == 30:
                    self.wrong("TooDeep")
                opened += 1
                self.take()
                if word == "not":
                    stack[-1][0] += 1
                else:
                    stack.append([0, [[]]])
                continue
            unit = self.unit(known, n)
            while True:
                for _ in range(stack[-1][0]):
                    unit = ("not", unit)
                    opened -= 1
                stack[-1][0] = 0
                stack[-1][1][-1].append(unit)
                word = self.words[0][0]
                if word in ("and", "or"):
                    self.take()
                    if word == "or":
                        stack[-1][1].append([])
                    break
                parts = [part[0] if len(part) == 1 else ("and", tuple(part)) for part in stack[-1][1]]
                unit = parts[0] if len(parts) == 1 else ("or", tuple(parts))
                if len(stack) == 1:
                    return unit
                self.take(")")
                stack.pop()
                opened -= 1

    def unit(self, known, n):
        if name_told(self.words[0][0]):
            who = self.who(known)
            self.take()
            return ("is", who, SIGN[self.take("over", "level", "under")])
        one = self.count(known, n)
        sign = self.take("<", "=", ">")
        two = self.count(known, n)
        return {"<": ("less", one, two), ">": ("less", two, one), "=": ("same", one, two)}[sign]

    def count(self, known, n):
        if figures_told(self.words[0][0]):
            return ("number", int(self.take()))
        stand = SIGN[self.take("over", "level", "under")]
        if self.words[0][0] != "of":
            return ("votes", stand, tuple((member, 1) for member in range(n)))
        self.take()
        self.take("(")
        voters = []
        while True:
            who = self.who(known)
            if who in [ahead for ahead, _ in voters]:
                self.wrong("Twice")
            self.take()
            voters.append((who, int(self.take()) if figures_told(self.words[0][0]) else 1))
            if self.take(",", ")") == ")":
                return ("votes", stand, tuple(voters))


def council_plain(text):
    """The council of a text, or the name of the error and its what."""
    try:
        return Reader(text).council()
    except Wrong as wrong:
        return wrong.args


def stands(council, who, row):
    names, chambers, _ = council
    if who < len(names):
        return row[who]
    formula = chambers[who - len(names)][1]
    here = true_told(council, formula, row)
    there = true_told(council, formula, tuple(-sign for sign in row))
    return here - there


def number_told(council, count, row):
    if count[0] == "number":
        return count[1]
    return sum(weight for who, weight in count[2] if stands(council, who, row) == count[1])


def true_told(council, formula, row):
    kind = formula[0]
    if kind == "is":
        return stands(council, formula[1], row) == formula[2]
    if kind == "not":
        return not true_told(council, formula[1], row)
    if kind == "and":
        return all(true_told(council, part, row) for part in formula[1])
    if kind == "or":
        return any(true_told(council, part, row) for part in formula[1])
    one, two = number_told(council, formula[1], row), number_told(council, formula[2], row)
    return one < two if kind == "less" else one == two


def count_text(count, known, n):
    if count[0] == "number":
        return str(count[1])
    if count[2] == tuple((member, 1) for member in range(n)):
        return WORD[count[1]]
    voters = ", ".join(known[who] if weight == 1 else f"{known[who]} {weight}" for who, weight in count[2])
    return f"{WORD[count[1]]} of ({voters})"


def formula_text(formula, known, n):
    """The text of a formula as [57] tells it."""
    kind = formula[0]
    if kind == "is":
        return f"{known[formula[1]]} {WORD[formula[2]]}"
    if kind in ("less", "same"):
        sign = "<" if kind == "less" else "="
        return f"{count_text(formula[1], known, n)} {sign} {count_text(formula[2], known, n)}"
    within = {"not": ("and", "or"), "and": ("and", "or"), "or": ("or",)}[kind]
    parts = (formula[1],) if kind == "not" else formula[1]
    texts = [formula_text(part, known, n) for part in parts]
    texts = [f"({text})" if part[0] in within else text for part, text in zip(parts, texts)]
    return "not " + texts[0] if kind == "not" else f" {kind} ".join(texts)


def council_text(council):
    names, chambers, wins = council
    known = names + tuple(name for name, _ in chambers)
    parts = ["members " + ", ".join(names) + ";"]
    parts += [f"chamber {name}: {formula_text(formula, known, len(names))};" for name, formula in chambers]
    return " ".join(parts + ["wins if " + formula_text(wins, known, len(names))])


def formula_by_chance(chance, known, n, deep):
    """A formula of the members and chambers so far, as text, with brackets where nobody needs them."""
    kind = chance.randrange(8) if deep else chance.randrange(3)
    if kind == 0:
        return f"{chance.choice(known)} {chance.choice(('over', 'level', 'under'))}"
    if kind < 3:
        counts = [count_by_chance(chance, known), count_by_chance(chance, known)]
        return f"{counts[0]} {chance.choice('<=>')} {counts[1]}"
    inner = [formula_by_chance(chance, known, n, deep - 1) for _ in range(chance.randrange(1, 4))]
    if kind == 3:
        return "not " + chance.choice(("", "not ")) + f"({inner[0]})"
    if kind == 4:
        return f"({inner[0]})"
    return f" {chance.choice(('and', 'or'))} ".join(chance.choice((text, f"({text})")) for text in inner)


def count_by_chance(chance, known):
    if chance.randrange(3) == 0:
        return str(chance.choice((0, 1, 2, 3, 999999)))
    stand = chance.choice(("over", "level", "under"))
    if chance.randrange(3) == 0:
        return stand
    voters = chance.sample(known, chance.randrange(1, len(known) + 1))
    return f"{stand} of ({', '.join(name + chance.choice(('', ' 0', ' 1', ' 2', ' 17')) for name in voters)})"


def council_by_chance(chance, n, chambers, deep):
    """The text of a council of n members."""
    known = chance.sample(["a", "b", "c2", "dd", "e", "zzzzzzzzzzz9"], n)
    parts = ["members " + ", ".join(known) + ";"]
    for at in range(chambers):
        formula = formula_by_chance(chance, known, n, deep)
        known.append(f"house{at}")
        parts.append(f"chamber {known[-1]}: {formula};")
    return " ".join(parts + ["wins if " + formula_by_chance(chance, known, n, deep)])
