"""The errors of the package."""


class BridgeError(ValueError):
    """The class of all errors of the package."""

    def __init__(self):
        pass


class BadRatio(BridgeError):
    """The bottom of a ratio is 0."""

    def __init__(self):
        pass


class BadForce(BridgeError):
    """A number of a force is not a whole number."""

    def __init__(self, what):
        self.what = what


class BadLoad(BridgeError):
    """A load has a wrong count of forces, or a thing that is no force."""

    def __init__(self, what):
        self.what = what


class OtherSize(BridgeError):
    """Two things that belong together differ in their lengths."""

    def __init__(self):
        pass


class NoStone(BridgeError):
    """There is no such stone."""

    def __init__(self, stone):
        self.stone = stone


class NoJoint(BridgeError):
    """There is no such joint."""

    def __init__(self, joint):
        self.joint = joint


class NoCorner(BridgeError):
    """There is no such corner."""

    def __init__(self, corner):
        self.corner = corner


class BadBridge(BridgeError):
    """The joints or the own load do not make a bridge."""

    def __init__(self, what, joint):
        self.what = what
        self.joint = joint


class NoPart(BridgeError):
    """There is no part of the bridge between these joints."""

    def __init__(self, first, last):
        self.first = first
        self.last = last


class BadRing(BridgeError):
    """The outline or the density of a stone is wrong."""

    def __init__(self, what, stone):
        self.what = what
        self.stone = stone


class BadCut(BridgeError):
    """A ring cannot be divided between these points."""

    def __init__(self, one, other):
        self.one = one
        self.other = other


class BadThrust(BridgeError):
    """The force or the parts of a thrust are wrong."""

    def __init__(self):
        pass


class BadCorners(BridgeError):
    """A thing is not a list of corners as it is asked for."""

    def __init__(self):
        pass


class InLine(BridgeError):
    """Three corners lie in one line."""

    def __init__(self, corners):
        self.corners = corners


class BadMotion(BridgeError):
    """A number of a motion is not a whole number."""

    def __init__(self):
        pass


class BadWeights(BridgeError):
    """Weights have a wrong count, or a thing that is no weight."""

    def __init__(self, what):
        self.what = what


class Unbalanced(BridgeError):
    """Weights are not balanced."""

    def __init__(self):
        pass


class NotStanding(BridgeError):
    """The load is not borne."""

    def __init__(self, mechanism):
        self.mechanism = mechanism


class BadPalette(BridgeError):
    """A thing is not a palette of the bridge."""

    def __init__(self, what):
        self.what = what


class BadMix(BridgeError):
    """A thing is not a mix of the palette."""

    def __init__(self):
        pass


class BadRows(BridgeError):
    """Rows are not lists of whole numbers of one length."""

    def __init__(self):
        pass


class BadCart(BridgeError):
    """The name, the length or the wheels of a cart are wrong."""

    def __init__(self, what):
        self.what = what


class BadRule(BridgeError):
    """The carts, the way or the steps of a rule are wrong."""

    def __init__(self, what, index):
        self.what = what
        self.index = index


class NoCart(BridgeError):
    """There is no cart of this name."""

    def __init__(self, name):
        self.name = name


class BadRoad(BridgeError):
    """The borders or the rules of a road are wrong."""

    def __init__(self, what):
        self.what = what


class NoLane(BridgeError):
    """There is no such lane."""

    def __init__(self, lane):
        self.lane = lane


class BadLimit(BridgeError):
    """A limit, or a list of limits, is wrong."""

    def __init__(self, what):
        self.what = what


class NotSafe(BridgeError):
    """The road is not safe."""

    def __init__(self, mechanism):
        self.mechanism = mechanism


class BadYard(BridgeError):
    """The bridge, the borders or the hoist of a yard are wrong."""

    def __init__(self, what):
        self.what = what


class BadStage(BridgeError):
    """A thing is not a stage of the yard."""

    def __init__(self):
        pass


class BadChange(BridgeError):
    """A change, or a list of changes, is wrong."""

    def __init__(self, what):
        self.what = what


class NoChange(BridgeError):
    """There is no change with this number."""

    def __init__(self, number):
        self.number = number


class BadRow(BridgeError):
    """A row of a text is wrong."""

    def __init__(self, row, what):
        self.row = row
        self.what = what
