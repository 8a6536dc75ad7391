"""The mechanisms that a palette needs, and bridges compared by palettes."""

from fourhinges.errors import BadPalette
from fourhinges.linear import Parted, implied
from fourhinges.mechanisms import mechanisms
from fourhinges.palettes import check_palette, work_rows


class Needed:
    """The mechanisms that are kept, each with a mix, and those that are dropped, each with a paper."""

    def __init__(self, kept, dropped):
        self.kept = kept
        self.dropped = dropped


class BearsAll:
    """The one bridge bears all that the other one bears: a paper for each of its mechanisms."""

    def __init__(self, papers):
        self.papers = papers


class PartedBy:
    """A mechanism of the one bridge works under this mix, which the other one bears."""

    def __init__(self, mechanism, mix):
        self.mechanism = mechanism
        self.mix = mix


def _kept_mixes(rows):
    """Return, by their places, the mixes of the rows that are not implied by the others that stay."""
    mixes = {}
    stay = list(range(len(rows)))
    for at, row in enumerate(rows):
        others = [other for other in stay if other != at]
        answer = implied(row, [rows[other] for other in others])
        if isinstance(answer, Parted):
            # Rows that are dropped later only take away what the mix has to keep.
            mixes[at] = answer.mix
        else:
            stay = others
    return mixes


def needed(bridge, palette):
    """Return the mechanisms that are needed for a palette, and those that can be spared."""
    rows = work_rows(bridge, palette)
    mixes = _kept_mixes(rows)
    kept_rows = [rows[at] for at in mixes]
    kept, dropped = [], []
    for at, mechanism in enumerate(mechanisms(bridge)):
        if at in mixes:
            kept.append((mechanism, mixes[at]))
        else:
            dropped.append((mechanism, implied(rows[at], kept_rows)))
    return Needed(tuple(kept), tuple(dropped))


def compare_bridges(one, other, one_palette, other_palette):
    """Return BearsAll if the one bridge bears every mix that the other one bears, and PartedBy if not."""
    check_palette(one, one_palette)
    check_palette(other, other_palette)
    if len(one_palette) != len(other_palette):
        raise BadPalette("count")
    rows = work_rows(one, one_palette)
    other_rows = work_rows(other, other_palette)
    papers = []
    for mechanism, row in zip(mechanisms(one), rows):
        answer = implied(row, other_rows)
        if isinstance(answer, Parted):
            return PartedBy(mechanism, answer.mix)
        papers.append(answer)
    return BearsAll(tuple(papers))
