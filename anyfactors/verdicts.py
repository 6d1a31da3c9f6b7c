"""Verdicts: the kinds of all unknowns, each with a paper that shows it."""

from anyfactors.hiding import check_hiding, hiding
from anyfactors.kinds import check_mixing, check_strikes, kind_of, mixing, strikes_for
from anyfactors.shapes import check_set
from anyfactors.steps import check_steps, steps_to


def _copied(value):
    """Return a copy of any value, with copies of the lists and dicts inside it."""
    if isinstance(value, list):
        return [_copied(item) for item in value]
    if isinstance(value, tuple):
        return tuple([_copied(item) for item in value])
    if isinstance(value, dict):
        return {key: _copied(value[key]) for key in value}
    return value


class Verdict:
    """Kinds and papers; it never changes."""

    def __init__(self, kinds, papers):
        self._kinds = _copied(kinds)
        self._papers = _copied(papers)

    @property
    def kinds(self):
        """The kinds, a dict from all unknowns to words."""
        return _copied(self._kinds)

    @property
    def papers(self):
        """The papers, a dict from all unknowns to what shows their kinds."""
        return _copied(self._papers)


def _paper_for(shape, readings, name, kind):
    """Return a value that shows that the unknown has this kind."""
    if kind == "always":
        return steps_to(shape, readings, name)
    if kind == "never":
        return strikes_for(shape, readings, name)
    return hiding(shape, readings, name), mixing(shape, readings, name)


def judge(shape, readings):
    """Return the verdict of the readings."""
    check_set(shape.unknowns, readings)
    kinds = {name: kind_of(shape, readings, name) for name in shape.unknowns}
    papers = {name: _paper_for(shape, readings, name, kinds[name]) for name in shape.unknowns}
    return Verdict(kinds, papers)


def _is_list(value):
    return isinstance(value, (list, tuple))


def _is_pair(value):
    return isinstance(value, tuple) and len(value) == 2


def _has_just(names, value):
    """Tell whether any value is a dict with just these names as keys."""
    return isinstance(value, dict) and len(value) == len(names) and all([name in value for name in names])


def _shows_always(shape, readings, name, paper):
    if not _is_list(paper) or not check_steps(shape, readings, paper):
        return False
    return name in readings or name in [found for _, found in paper]


def _shows_hiding(shape, readings, name, paper):
    if not _is_pair(paper):
        return False
    factors, values = paper
    if not isinstance(factors, dict) or not _has_just(shape.unknowns, values):
        return False
    return check_hiding(shape, readings, name, factors, values)


def _shows_mixing(shape, readings, name, paper):
    if not _is_pair(paper):
        return False
    factors, multipliers = paper
    if not isinstance(factors, dict) or not _is_list(multipliers):
        return False
    return check_mixing(shape, readings, name, factors, multipliers)


def _shows(shape, readings, name, kind, paper):
    """Tell whether any value, as a paper, shows that the unknown has the kind, which may be any value, too."""
    if kind == "always":
        return _shows_always(shape, readings, name, paper)
    # A reading follows always; the checks of the other kinds refuse it with an error.
    if name in readings:
        return False
    if kind == "never":
        return _is_list(paper) and check_strikes(shape, readings, name, paper)
    if kind != "sometimes" or not _is_pair(paper):
        return False
    return _shows_hiding(shape, readings, name, paper[0]) and _shows_mixing(shape, readings, name, paper[1])


def check_verdict(shape, readings, verdict):
    """Tell whether the papers of the verdict show that all its kinds are right."""
    check_set(shape.unknowns, readings)
    kinds = verdict.kinds
    papers = verdict.papers
    if not _has_just(shape.unknowns, kinds) or not _has_just(shape.unknowns, papers):
        return False
    return all([_shows(shape, readings, name, kinds[name], papers[name]) for name in shape.unknowns])
