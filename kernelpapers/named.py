"""The names that stand in terms, rows and scripts."""

from kernelpapers.forms import all_spots, inner_terms, with_part
from kernelpapers.joined import script_with, terms_of_script

NAMING = ("name", "thing", "maker", "eater")


def terms_of_row(row):
    """All terms in a row of a ground."""
    if row[0] != "thing":
        return list(row[2:])
    terms = list(row[3])
    for sayings in row[4]:
        terms.extend(sayings)
    return terms


def names_of(row, paper, script):
    """The names that stand in a row, its paper and its script, a dict of True."""
    terms = terms_of_row(row)
    if paper is not None:
        terms.append(paper)
    if script is not None:
        terms.extend(terms_of_script(script))
    found = {}
    for term in terms:
        for part, _ in inner_terms(term):
            if part[0] in NAMING:
                found[part[1]] = True
    return found


def term_renamed(term, elder, other):
    """The term with the other name wherever the elder one stands."""
    made = term
    for spot, (part, _) in zip(all_spots(term), inner_terms(term)):
        if part[0] in NAMING and part[1] == elder:
            made = with_part(made, spot, (part[0], other, *part[2:]))
    return made


def row_renamed(row, elder, other):
    """The row with the other name wherever the elder one stands."""
    name = other if row[1] == elder else row[1]
    if row[0] != "thing":
        return (row[0], name, *[term_renamed(term, elder, other) for term in row[2:]])
    bounds = _renamed_all(row[3], elder, other)
    return ("thing", name, row[2], bounds, tuple([_renamed_all(sayings, elder, other) for sayings in row[4]]))


def _renamed_all(terms, elder, other):
    """The terms, a tuple, with the other name wherever the elder one stands."""
    return tuple([term_renamed(term, elder, other) for term in terms])


def script_renamed(script, elder, other):
    """The script with the other name wherever the elder one stands."""
    return script_with(script, lambda term: term_renamed(term, elder, other))
