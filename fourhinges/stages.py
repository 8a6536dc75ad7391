"""Stages of a yard: whether they stand, and the steps between them."""

from fourhinges.tracks import Track
from fourhinges.ways import span_ways, way_with
from fourhinges.yard import checked_stage, spans


class StageFall:
    """A span falls by these weights, with the hoist at a place or away."""

    def __init__(self, first, last, weights, work, front, stones):
        self.first = first
        self.last = last
        self.weights = weights
        self.work = work
        self.front = front
        self.stones = stones


def _way_fall(yard, track, span, way):
    """Return the fall of a span in one way, or None."""
    first, last, _, _ = span
    own = way.own_work(yard.bridge)
    if own > 0:
        return StageFall(first, last, way.weights, own, None, None)
    if track is None:
        return None
    front, stones = track.worst_stand(way)
    amount = own + track.hoist_work(way, front, stones)
    return StageFall(first, last, way.weights, amount, front, stones) if amount > 0 else None


def _track(yard, stage):
    return None if yard.hoist is None else Track(yard, stage)


def _span_fall(yard, stage, span):
    track = _track(yard, stage)
    for way in span_ways(yard.bridge, span):
        found = _way_fall(yard, track, span, way)
        if found is not None:
            return found
    return None


class Site:
    """A yard whose spans are judged only once, as long as the same stones are laid."""

    def __init__(self, yard):
        self._yard = yard
        self._falls = {}

    def _known_fall(self, stage, span):
        # Frames tell which spans there are, and nothing else.
        key = (stage[0], stage[1], span)
        if key not in self._falls:
            self._falls[key] = _span_fall(self._yard, stage, span)
        return self._falls[key]

    def first_stage_fall(self, stage):
        """Return the fall of the first span that falls in a stage, or None."""
        for span in spans(self._yard, stage):
            found = self._known_fall(stage, span)
            if found is not None:
                return found
        return None


def stage_fall(yard, stage):
    """Return None if a stage stands, and a StageFall otherwise."""
    return Site(yard).first_stage_fall(checked_stage(yard, stage))


def _is_hoist_right(track, front, stones):
    if front is None or stones is None:
        return front is None and stones is None
    return track is not None and track.is_allowed(front, stones)


def stage_fall_fault(yard, stage, fall):
    """Return what is wrong with an answer of stage_fall, or None."""
    checked = checked_stage(yard, stage)
    found = [span for span in spans(yard, checked) if span[:2] == (fall.first, fall.last)]
    if not found:
        return "span"
    track = _track(yard, checked)
    if not _is_hoist_right(track, fall.front, fall.stones):
        return "hoist"
    if len(fall.weights) != yard.bridge.corner_count:
        return "size"
    way = way_with(yard.bridge, found[0], fall.weights)
    if way is None:
        return "weights"
    amount = way.own_work(yard.bridge)
    if fall.front is not None:
        amount += track.hoist_work(way, fall.front, fall.stones)
    return "work" if amount != fall.work or amount <= 0 else None


def _laid_one_more(stones, left, right, frames):
    """Return a stage with one more stone laid; when all are laid, both grounds are the same."""
    return (stones, 0, frames) if left + right == stones else (left, right, frames)


def stage_steps(yard, stage, most):
    """Yield each step that leads from a stage to another one with at most so many frames, with that stage."""
    left, right, frames = checked_stage(yard, stage)
    stones = yard.bridge.stones
    if left + right < stones:
        yield (("lay", "left"), _laid_one_more(stones, left + 1, right, frames))
        yield (("lay", "right"), _laid_one_more(stones, left, right + 1, frames))
    if len(frames) < most:
        for stone in range(stones):
            if stone not in frames:
                yield (("frame", stone), (left, right, tuple(sorted(frames + (stone,)))))
    for stone in frames:
        yield (("strike", stone), (left, right, tuple([other for other in frames if other != stone])))
