"""Lines heard sign by sign: each worth is told as soon as it is settled."""

from noteworth.errors import Closed
from noteworth.reader import DOTTED_WORTH, DOUBLED_WORTH, SHORTENED_WORTH, plain_worth
from noteworth.signs import GREAT_KINDS, SMALL_KINDS, sets_measure

# What is handed on as the next kind where nothing more comes.
NOTHING_MORE = ""


class Ear:
    """Hears a line. What it holds are the worths that it has not told, as the signs alone tell them.

    `left`: the first of them is a `G` that may be shortened by the run behind it.
    `right`: the last of them is a `G` that is shortened from ahead, unless a great sign comes next.
    `counted`: how many signs the run has that goes on now. `last`: the kind that was heard last.
    """

    def __init__(self, begin=3):
        self.measure = begin
        self.held = []
        self.left = False
        self.right = False
        self.counted = 0
        self.last = NOTHING_MORE
        self.is_closed = False

    def hear(self, sign):
        """Hear one more sign; return the worths that are told now."""
        self.refuse_where_closed()
        settled = self.settled_by(sign[0])
        if sets_measure(sign):
            self.measure = int(sign[0])
        self.hold(sign[0])
        if self.hangs():
            return settled
        return settled + self.let_go()

    def close(self):
        """Return all worths that are left."""
        self.refuse_where_closed()
        self.is_closed = True
        return self.settled_by(NOTHING_MORE)

    def waiting(self):
        """Return how many signs were heard whose worths aren't told yet."""
        return len(self.held)

    def refuse_where_closed(self):
        """Refuse whatever comes behind a close."""
        if self.is_closed:
            raise Closed("the ear was closed before")

    def settled_by(self, kind):
        """Return the worths that the next kind settles of those that are held."""
        if self.measure == 2:
            self.settle_dotted(kind)
        elif self.right:
            self.settle_right(kind)
        elif kind not in SMALL_KINDS:
            self.close_run(kind)
        # All that is held stands behind the left note, and no worth is told ahead of its turn.
        if self.left:
            return []
        return self.let_go()

    def settle_dotted(self, kind):
        """Settle a `G` of the twofold measure by what comes right behind it."""
        if self.last == "G" and kind == ".":
            self.held[-1] = DOTTED_WORTH

    def settle_right(self, kind):
        """Settle the `G` behind a run, and the left note with it, by what comes right behind it."""
        if kind not in GREAT_KINDS:
            self.held[-1] = SHORTENED_WORTH
            if self.left:
                self.held[0] = SHORTENED_WORTH
        self.left = False
        self.right = False

    def close_run(self, kind):
        """Close the run, maybe one of no signs, by the kind that comes right behind it."""
        rest = self.counted % 3
        self.counted = 0
        if rest == 2 and self.last == "s" and kind in GREAT_KINDS:
            self.held[-1] = DOUBLED_WORTH
        elif rest == 2 and self.left and kind == "G":
            # Whether both are shortened is told by the next sign, so the left note stays open.
            self.right = True
            return
        elif rest == 1 and self.left:
            self.held[0] = SHORTENED_WORTH
        elif rest == 1 and kind == "G":
            self.right = True
        self.left = False

    def hold(self, kind):
        """Hold one more sign's worth."""
        self.held.append(plain_worth(kind, self.measure))
        self.last = kind
        if self.measure == 3 and kind in SMALL_KINDS:
            self.counted += 1
        if self.measure == 3 and kind == "G" and not self.right:
            self.left = True

    def hangs(self):
        """Tell whether the first of the held worths hangs on what comes next."""
        if self.measure == 2:
            return self.last == "G"
        may_double = self.last == "s" and self.counted % 3 == 2
        return self.left or self.right or may_double

    def let_go(self):
        """Return the held worths and hold them no longer."""
        settled = self.held
        self.held = []
        return settled
