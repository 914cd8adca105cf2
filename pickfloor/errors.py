"""The refusals: one class for each kind, all of them straight under PickError."""


class PickError(ValueError):
    """Any refusal."""


class BadWare(PickError):
    """What stands in the place of a ware is none."""


class BadMake(PickError):
    """What stands in the place of a make is none."""


class BadNeed(PickError):
    """What stands in the place of a make's needs is no list of needs that the make may have."""


class Twice(PickError):
    """The shop has that make already."""


class Full(PickError):
    """The shop has no place for a further ware, or for a further make of that ware."""


class NoMake(PickError):
    """The shop has no such make."""


class BadWish(PickError):
    """What stands in the place of a wish is none."""


class BadPick(PickError):
    """What stands in the place of a pick, or of granted pairs, is none that the shop has."""
