"""The texts of sums of words."""

from wordworth.errors import BadText
from wordworth.ratios import Ratio

LONGEST = 400
DEEPEST = 18

# What may come next at each point of a text, and at which point the text is
# then: "part" where a part is due, "done" behind a part, the others in a number.
POINTS = {
    "part": (("0", "zero"), ("123456789", "top"), ("-", "minus"), ("abcd", "done"), ("(", "part")),
    "minus": (("123456789", "top"),),
    "zero": (("/", "slash"), ("+.", "part"), ("*)", "done")),
    "top": (("0123456789", "top"), ("/", "slash"), ("+.", "part"), ("*)", "done")),
    "slash": (("123456789", "bottom"),),
    "bottom": (("0123456789", "bottom"), ("+.", "part"), ("*)", "done")),
    "done": (("+.", "part"), ("*)", "done")),
}
# Where a text may end.
ENDS = ("zero", "top", "bottom", "done")


def write_sum(term):
    """The text of the term."""
    signs = []
    waiting = [term]
    # Without recursion, because a term may be nested deeper than calls should be.
    while waiting:
        item = waiting.pop()
        if isinstance(item, str):
            signs.append(item)
        else:
            waiting.extend(_pieces(item)[::-1])
    return "".join(signs)


def read_sum(text):
    """The term with this text."""
    place = _wrong_place(text)
    if place is not None:
        raise BadText(place)
    return _built(_tokens(text))


def _pieces(term):
    """The strings and terms of which the text of the term is made, in their order."""
    kind = term[0]
    if kind == "number":
        return [term[1].text()]
    if kind == "letter":
        return [term[1]]
    if kind == "plus":
        return [term[1], "+"] + _held(term[2], ("plus",))
    if kind == "row":
        return _held(term[1], ("plus",)) + ["."] + _held(term[2], ("plus", "row"))
    return _held(term[1], ("plus", "row")) + ["*"]


def _held(term, kinds):
    """The term, in brackets if it is of one of the kinds."""
    return ["(", term, ")"] if term[0] in kinds else [term]


def _wrong_place(text):
    """The place at which the text is wrong, or None if it is right."""
    point = "part"
    depth = 0
    for at, sign in enumerate(text[:LONGEST]):
        point = _next_point(point, sign)
        if sign == "(":
            depth += 1
        if sign == ")":
            depth -= 1
        if point is None or depth < 0 or depth > DEEPEST:
            return at
    if len(text) > LONGEST:
        return LONGEST
    return None if point in ENDS and depth == 0 else len(text)


def _next_point(point, sign):
    """The point of the text behind the sign, or None if the sign may not stand there."""
    for signs, following in POINTS[point]:
        if sign in signs:
            return following
    return None


def _tokens(text):
    """The numbers of a right text, and its other characters, in their order."""
    found = []
    digits = ""
    for sign in text:
        if sign in "-/0123456789":
            digits += sign
        else:
            if digits:
                found.append(digits)
            digits = ""
            found.append(sign)
    return found + [digits] if digits else found


def _built(tokens):
    """The term of the tokens of a right text."""
    # For each bracket that is open, and the whole text: the sum as far as it
    # is finished, and the row that is added to it next.
    outer = []
    done, row, part = None, None, None
    for token in tokens:
        if token == "(":
            outer.append((done, row))
            done, row = None, None
        elif token == ")":
            part = _two("plus", done, _two("row", row, part))
            done, row = outer.pop()
        elif token == "*":
            part = ("star", part)
        elif token == ".":
            row = _two("row", row, part)
        elif token == "+":
            done, row = _two("plus", done, _two("row", row, part)), None
        else:
            part = _leaf(token)
    return _two("plus", done, _two("row", row, part))


def _two(kind, one, other):
    """The term of this kind, or the second term alone if there is no first one yet."""
    return other if one is None else (kind, one, other)


def _leaf(token):
    """The term of a letter or a number."""
    if token.isalpha():
        return ("letter", token)
    top, _, bottom = token.partition("/")
    return ("number", Ratio(int(top), int(bottom or "1")))
