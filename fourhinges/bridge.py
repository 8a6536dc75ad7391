"""Bridges: a row of joints, and the load of the stones between them."""

from fourhinges.errors import BadBridge, BadRing, NoCorner, NoPart, NoStone, OtherSize
from fourhinges.forces import Force
from fourhinges.kinds import is_row
from fourhinges.loads import MOST_STONES, Load
from fourhinges.ratios import is_whole
from fourhinges.rings import check_ring, is_point, ring_force

GREATEST_DENSITY = 10 ** 30


def side_of(corner):
    """Return 1 for an inner corner and -1 for an outer one."""
    return 1 if corner % 2 == 0 else -1


def are_corners(bridge, thing):
    """Say whether a thing is a list or tuple of corners of the bridge without duplicates."""
    last = bridge.corner_count - 1
    return (is_row(thing, 0, bridge.corner_count) and all([is_whole(corner, 0, last) for corner in thing])
            and len(set(thing)) == len(thing))


def corner_moments(bridge, forces):
    """Return, for each corner, the moment about it of its joint's force; one force for each joint."""
    return [forces[corner // 2].about(bridge.point(corner)) for corner in range(bridge.corner_count)]


def _checked_joint(index, joint):
    if not is_row(joint, 2, 2):
        raise BadBridge("joint", index)
    if not is_point(joint[0]) or not is_point(joint[1]):
        raise BadBridge("corner", index)
    inner, outer = tuple(joint[0]), tuple(joint[1])
    if inner == outer:
        raise BadBridge("same", index)
    return (inner, outer)


def _checked_joints(joints):
    if not is_row(joints, 2, MOST_STONES + 1):
        raise BadBridge("joints", None)
    return tuple([_checked_joint(index, joint) for index, joint in enumerate(joints)])


def _checked_own(own, stones):
    if own is None:
        return Load.none(stones)
    if not isinstance(own, Load) or len(own) != stones:
        raise BadBridge("own", None)
    return own


class Bridge:
    """A row of stones between joints, with the load of the stones themselves."""

    def __init__(self, joints, own=None):
        self.joints = _checked_joints(joints)
        self.stones = len(self.joints) - 1
        self.corner_count = 2 * len(self.joints)
        self.own = _checked_own(own, self.stones)

    @classmethod
    def of_rings(cls, joints, rings, densities):
        """Return the bridge whose own load is the weight of its rings."""
        bare = cls(joints)
        if not is_row(rings, bare.stones, bare.stones):
            raise BadRing("rings", None)
        for stone, ring in enumerate(rings):
            check_ring(bare.joints, stone, ring)
        if not is_row(densities, bare.stones, bare.stones):
            raise BadRing("densities", None)
        if not all([is_whole(density, 0, GREATEST_DENSITY) for density in densities]):
            raise BadRing("densities", None)
        forces = [ring_force(ring, density) for ring, density in zip(rings, densities)]
        return cls(joints, Load(forces))

    def point(self, corner):
        """Return the point of a corner."""
        if not is_whole(corner, 0, self.corner_count - 1):
            raise NoCorner(corner)
        return self.joints[corner // 2][corner % 2]

    def total(self, load=None):
        """Return the own load plus a further load."""
        if load is None:
            return self.own
        return self.own + load

    def with_own(self, load):
        """Return the bridge with another own load."""
        if len(load) != self.stones:
            raise OtherSize()
        return Bridge(self.joints, load)

    def moved(self, across, up):
        """Return the bridge with every point and every own force moved."""
        joints = [[(x + across, y + up) for x, y in joint] for joint in self.joints]
        forces = [Force(force.across, force.up, force.moment + across * force.up - up * force.across)
                  for force in self.own]
        return Bridge(joints, Load(forces))

    def mirrored(self):
        """Return the bridge with left and right exchanged."""
        joints = [[(-x, y) for x, y in joint] for joint in self.joints]
        forces = [Force(-force.across, force.up, -force.moment) for force in self.own]
        return Bridge(joints[::-1], Load(forces[::-1]))

    def exchanged(self):
        """Return the bridge with inner and outer exchanged at each joint."""
        return Bridge([(outer, inner) for inner, outer in self.joints], self.own)

    def scaled(self, times):
        """Return the bridge with all coordinates and all own moments multiplied."""
        joints = [[(x * times, y * times) for x, y in joint] for joint in self.joints]
        forces = [Force(force.across, force.up, force.moment * times) for force in self.own]
        return Bridge(joints, Load(forces))

    def between(self, first, last):
        """Return the bridge of the joints from the first to the last one."""
        if not is_whole(first, 0, self.stones) or not is_whole(last, 0, self.stones) or first >= last:
            raise NoPart(first, last)
        return Bridge(self.joints[first:last + 1], Load(self.own.forces[first:last]))

    def cut(self, stone, joint, left):
        """Return the bridge with a stone divided by a new joint; its left part gets the force left."""
        if not is_whole(stone, 0, self.stones - 1):
            raise NoStone(stone)
        at = stone + 1
        # The joints are checked first: beyond 8 stones the load would raise an error of its own.
        bare = Bridge(self.joints[:at] + (joint,) + self.joints[at:])
        forces = self.own.forces
        return bare.with_own(Load(forces[:stone] + (left, forces[stone] - left) + forces[at:]))

    def __eq__(self, other):
        return isinstance(other, Bridge) and self.joints == other.joints and self.own == other.own
