"""The asker of works, which leads an asker for each helper's house."""

from guessroom.asker import Asker
from guessroom.callhouse import row_for, row_with, takes, takes_part
from guessroom.errors import Contradiction, NoDifference
from guessroom.hunt import Turns
from guessroom.nest import parts
from guessroom.table import first_unlike


def use_row(plain, helpers, j, use, local):
    return row_for(plain, helpers, j, use, local)


# A local word is known to be taken as soon as it is a part of a row that was told True. Of each
# row told False at least one part is not: these are kept in doubts, and where none is left no
# works answers so.
class CallAsker(Turns):
    def __init__(self, plain, helpers, most, uses):
        Turns.__init__(self)
        self.plain = plain
        self.helpers = helpers
        self.uses = list(uses)
        self.use_rows = [row_with(plain, helpers, j, use, use[1]) for j, use in enumerate(uses)]
        self.askers = [Asker(plain + helpers, most) for use in uses]
        self.answers = {}
        self.accepted = {}
        self.doubts = {}
        self.go_on()

    def hear(self, taken):
        self.check_wants("ask")
        self.keep(self.wish[1], taken)
        self.go_on()

    def agree(self):
        self.check_wants("show")
        self.wish = ("done", self.wish[1])

    # A row that is not nested is refused in looking whether it is taken.
    def differ(self, signs, taken):
        self.check_wants("show")
        if takes(self.wish[1], signs) == taken:
            raise NoDifference("the works shown answers so")
        if self.answers.get(signs, taken) != taken:
            raise Contradiction("the other answer was told for the row")
        self.keep(signs, taken)
        self.go_on()

    def heard(self):
        return list(self.answers.items())

    def keep(self, signs, taken):
        self.answers[signs] = taken
        its_parts = parts(self.plain, self.helpers, signs)
        if taken:
            for part in its_parts:
                self.accepted[part] = True
            for row in list(self.doubts):
                self.doubts[row] = self.not_accepted(self.doubts[row])
        else:
            self.doubts[signs] = self.not_accepted(its_parts)

    def not_accepted(self, some):
        return [part for part in some if part not in self.accepted]

    def next_wish(self):
        wish = self.look_at_uses()
        if wish is None:
            wish = self.look_at_doubts()
        if wish is None:
            wish = self.look_at_askers()
        if wish is None:
            wish = self.look_at_works()
        return wish

    def own_row(self, part):
        return use_row(self.plain, self.helpers, part[0], self.uses, part[1])

    # 1 or 0, or None where nothing that was told tells it. An own row that is told but does not
    # have the part accepted was told False, and all its other parts are accepted.
    def mark_of(self, part):
        if part in self.accepted:
            return 1
        return 0 if self.own_row(part) in self.answers else None

    def look_at_uses(self):
        for j, row in enumerate(self.use_rows):
            if row not in self.answers:
                return ("ask", row)
            if not self.answers[row]:
                return ("useless", j)
        return None

    def look_at_doubts(self):
        for row in self.doubts:
            if len(self.doubts[row]) == 0:
                return ("torn", row)
        return None

    def look_at_askers(self):
        for j, asker in enumerate(self.askers):
            while asker.wants()[0] == "ask":
                part = (j, asker.wants()[1])
                mark = self.mark_of(part)
                if mark is None:
                    return ("ask", self.own_row(part))
                asker.hear(mark)
            if asker.wants()[0] == "spent":
                return ("spent", j)
        return None

    def look_at_works(self):
        works = (self.plain, tuple([asker.wants()[1] for asker in self.askers]))
        row = first_unlike(self.heard(), takes, works)
        if row is None:
            return ("show", works)
        some = parts(self.plain, self.helpers, row)
        if self.answers[row]:
            return self.object_with([part for part in some if not takes_part(works, part)])
        return self.object_with(self.doubts[row])

    # The houses answer these parts otherwise than they are to be answered, or one of them does:
    # which one is to be asked for, where it is not known.
    def object_with(self, some):
        part = some[0]
        mark = self.mark_of(part)
        if mark is None:
            return ("ask", self.own_row(part))
        self.askers[part[0]].differ(part[1], mark)
        return None
