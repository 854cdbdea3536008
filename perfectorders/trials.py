"""Trials: deeds that are taken back when a block ends."""

from perfectorders.deeds import check_deeds
from perfectorders.errors import OrdersError


class Block:
    """What a Trial kept before another block of it began."""

    def __init__(self, now, outer):
        self.now = now
        self.outer = outer


class Trial:
    """All deeds inside its block are taken back when the block ends."""

    def __init__(self, desk):
        self.desk = desk
        self.was_entered = False
        # The desk as it was when the innermost block that has not ended began, and what was kept before.
        self.now = None
        self.outer = None

    @property
    def ended(self):
        """Whether the block has been left."""
        return self.was_entered and self.now is None

    def __enter__(self):
        self.outer = Block(self.now, self.outer)
        self.now = self.desk.now
        self.was_entered = True
        return self

    # Takes up again what was kept before the block.
    def leave(self):
        outer = self.outer
        self.now = outer.now
        self.outer = outer.outer

    def __exit__(self, kind, value, trace):
        desk = self.desk
        desk.now = self.now
        self.leave()


def tried(desk, deeds):
    """Do the deeds until one is refused, take all of them back, and return the news of each, a tuple."""
    check_deeds(deeds)
    told = []
    with Trial(desk):
        for name, arguments in deeds:
            try:
                told.append(desk.do(name, arguments))
            except OrdersError as why:
                told.append(("refused", type(why).__name__))
                break
    return tuple(told)
