"""Reading claims: first all words are taken, then the claims are made in the order of the text."""

from heldfloods.claims import Both, ColourAt, Covered, Either, Held, Mirrored, NoneLeft, Not
from heldfloods.words import built_values

# What stands behind the first word of a claim, by the letters of Words.take_value; and how many claims are joined.
FORMS = {"colour": "ppc", "none": "c", "covered": "bc", "mirrored": "a", "held": "kb"}
JOINED = {"both": 2, "either": 2, "not": 1}


def claim_of(rows):
    """The claim whose text has these lines, of which there may be one alone."""
    made = taken_claims(rows[0])
    rows[0].finish()
    if len(rows) > 1:
        rows[1].refuse(0)
    stack = []
    for name, values in made:
        if name == "not":
            stack.append(Not(stack.pop()))
        elif name in JOINED:
            other = stack.pop()
            one = stack.pop()
            stack.append(Both(one, other) if name == "both" else Either(one, other))
        else:
            stack.append(made_claim(name, built_values(values)))
    return stack[0]


def taken_claims(words):
    """The list of the names and values of a claim and all claims in it, each behind those that it joins."""
    # Claims may stand deeper in each other than calls may be nested. Each join tells how many claims it still lacks.
    made, joins = [], []
    name, lacking = "", True
    while lacking:
        ahead, name = name, words.take()
        if name in FORMS:
            made.append((name, words.take_values(FORMS[name])))
            lacking = is_lacking(joins, made)
        elif name in JOINED and (ahead, name) != ("not", "not"):
            joins.append([name, JOINED[name]])
        else:
            words.refuse_last()
    return made


def is_lacking(joins, made):
    """Whether, behind a claim that is whole, a join lacks another one; those that lack none are put behind it."""
    while joins:
        name, many = joins.pop()
        if many > 1:
            joins.append([name, many - 1])
            return True
        made.append((name, []))
    return False


def made_claim(name, values):
    """The claim with this name and these values, not joined of others."""
    if name == "colour":
        return ColourAt(*values)
    if name == "none":
        return NoneLeft(*values)
    if name == "covered":
        return Covered(*values)
    if name == "mirrored":
        return Mirrored(*values)
    return Held(*values)
