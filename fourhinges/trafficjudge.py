"""Whether an answer of verdict is right."""

from fourhinges.heaviest import potentials_fault, table_most
from fourhinges.mechanisms import is_mechanism, mechanisms
from fourhinges.road import check_road
from fourhinges.scenes import scene_fault, scene_load
from fourhinges.traffic import Unsafe
from fourhinges.weights import work


def tables_fault(bridge, road, weights, tables):
    """Return what is wrong with the tables of all lanes for some weights, or None."""
    if len(tables) != len(road.rules):
        return "tables"
    for lane, table in enumerate(tables):
        if potentials_fault(bridge, road, lane, weights, table) is not None:
            return "table"
    return None


def tables_work(bridge, weights, tables):
    """Return the own work plus the greatest numbers of all tables."""
    return work(bridge, weights) + sum([table_most(table) for table in tables])


def scene_work(bridge, road, weights, scene):
    """Return the work of weights under a scene of the road."""
    return work(bridge, weights, scene_load(road, scene))


def _safe_fault(bridge, road, papers):
    if [mechanism for mechanism, _ in papers] != list(mechanisms(bridge)):
        return "mechanisms"
    for mechanism, tables in papers:
        fault = tables_fault(bridge, road, mechanism, tables)
        if fault is not None:
            return fault
        if tables_work(bridge, mechanism, tables) > 0:
            return "sum"
    return None


def _unsafe_fault(bridge, road, answer):
    if len(answer.mechanism) != bridge.corner_count:
        return "size"
    if not is_mechanism(bridge, answer.mechanism):
        return "mechanism"
    if scene_fault(road, answer.scene) is not None:
        return "scene"
    amount = scene_work(bridge, road, answer.mechanism, answer.scene)
    return "work" if amount != answer.work or amount <= 0 else None


def verdict_fault(bridge, road, answer):
    """Return what is wrong with an answer of verdict, or None."""
    check_road(bridge, road)
    if isinstance(answer, Unsafe):
        return _unsafe_fault(bridge, road, answer)
    return _safe_fault(bridge, road, answer.papers)
