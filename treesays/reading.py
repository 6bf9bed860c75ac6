"""Texts of formulas."""

from treesays.errors import SyntaxProblem
from treesays.formulas import is_element_name
from treesays.parts import built, inner

SMALL = "abcdefghijklmnopqrstuvwxyz"
CAPITALS = "ABCDEFGHIJKLMNOPQRSTUVWXYZ"
DIGITS = "0123456789"
WORDS = ("true", "not", "and", "or", "some", "all", "in", "inside", "below", "same", "top", "child", "label")

# The sorts of the variables of an atom: x for elements, X for sets.
SORTS = {"label": "x", "child": "xx", "below": "xx", "same": "xx", "in": "xX", "inside": "XX", "top": "x"}
ATOMS = ("true", "label", "child", "below", "same", "in", "inside", "top")
# What is complete as soon as the formula behind it is; all others bind less.
TIGHT = ("not", "some", "all", "someset", "allset", "and")
# How loosely a form binds; those that are not here bind most.
LOOSE = {"and": 1, "or": 2}


class Reader:
    """The tokens of a text, of which some have been taken already."""

    def __init__(self, text):
        self.tokens = _tokens(text)
        self.taken = 0

    def coming(self):
        """The next token; an empty text at the end."""
        if self.taken == len(self.tokens):
            return ""
        return self.tokens[self.taken][1]

    def place(self):
        """Where the reading fails if the next token cannot stand there."""
        if self.taken < len(self.tokens):
            return self.tokens[self.taken][0]
        if not self.tokens:
            return 0
        at, token = self.tokens[-1]
        return at + len(token)

    def take(self, allowed):
        """Take the next token, which has to be one of these."""
        token = self.coming()
        if token not in allowed:
            raise SyntaxProblem(self.place())
        self.taken += 1
        return token

    def take_name(self, letters):
        """Take the next token, which has to be a name that begins with one of these letters."""
        token = self.coming()
        if token == "" or token[0] not in letters or token in WORDS:
            raise SyntaxProblem(self.place())
        self.taken += 1
        return token


def _tokens(text):
    """The list of the pairs of a start and a token. A wrong character is a
    token, too: it can stand nowhere, so the reading fails there."""
    found = []
    at = 0
    while at < len(text):
        end = at + 1
        if text[at] in SMALL + CAPITALS:
            while end < len(text) and text[end] in SMALL + CAPITALS + DIGITS:
                end += 1
        if text[at] not in " \n":
            found.append((at, text[at:end]))
        at = end
    return found


def read_formula(text):
    """The formula of a text."""
    reader = Reader(text)
    # Parentheses and formulas may be nested deeper than calls of functions may
    # be, so what is begun waits here: beginnings of tuples that lack their end.
    waiting = []
    formula = None
    while formula is None:
        _read_openings(reader, waiting)
        formula = _read_endings(reader, waiting, _read_atom(reader))
    return formula


def _read_openings(reader, waiting):
    """Read what stands ahead of an atom."""
    while reader.coming() not in ATOMS:
        word = reader.take(("(", "not", "some", "all"))
        if word in ("some", "all"):
            name = reader.take_name(SMALL + CAPITALS)
            reader.take((":",))
            if not is_element_name(name):
                word = word + "set"
            waiting.append((word, name))
        else:
            waiting.append((word,))


def _read_atom(reader):
    """Read an atom, or true."""
    word = reader.take(ATOMS)
    if word == "true":
        return ("true",)
    start = (word,)
    if word == "label":
        start = (word, reader.take(tuple(SMALL)))
    elif word == "child":
        start = (word, int(reader.take(("0", "1"))))
    sign = "("
    names = []
    for sort in SORTS[word]:
        reader.take((sign,))
        names.append(reader.take_name(SMALL if sort == "x" else CAPITALS))
        sign = ","
    reader.take((")",))
    return (*start, *names)


def _read_endings(reader, waiting, formula):
    """Read what stands behind a formula up to the next one, and return None; or
    return the whole formula if the text ends there."""
    while True:
        formula = _completed(waiting, formula, TIGHT)
        if reader.coming() != "and":
            formula = _completed(waiting, formula, ("or",))
        if reader.coming() in ("and", "or"):
            waiting.append((reader.take(("and", "or")), formula))
            return None
        if not waiting:
            if reader.coming() != "":
                raise SyntaxProblem(reader.place())
            return formula
        reader.take((")",))
        waiting.pop()


def _completed(waiting, formula, words):
    """The formula with which those that wait last end, as far as they begin with these words."""
    while waiting and waiting[-1][0] in words:
        formula = (*waiting.pop(), formula)
    return formula


def write_formula(formula):
    """A text that is read as this formula."""
    return built(formula, _text_above)


def _text_above(formula, texts):
    """The text of a formula, by the texts of those directly inside of it."""
    word = formula[0]
    if word in ("and", "or"):
        left = _bracketed(formula[1], texts[0], LOOSE[word])
        right = _bracketed(formula[2], texts[1], LOOSE[word] - 1)
        return f"{left} {word} {right}"
    if texts:
        inside = _bracketed(inner(formula)[0], texts[0], 0)
        if word == "not":
            return f"not {inside}"
        plain_word = word.removesuffix("set")
        return f"{plain_word} {formula[1]}: {inside}"
    if word == "true":
        return word
    if word in ("label", "child"):
        return f"{word} {formula[1]}" + _listed(formula[2:])
    return word + _listed(formula[1:])


def _listed(names):
    return "(" + ", ".join(names) + ")"


def _bracketed(formula, text, most):
    """The text of a formula, in parentheses if it binds more loosely than this."""
    if LOOSE.get(formula[0], 0) > most:
        return f"({text})"
    return text
