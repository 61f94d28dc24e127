"""Which of a wheel's first beats are neighbours round it, and the gaps they leave."""

from gaphand.whole import check_beats


# The neighbours of beat 0, as more and more first beats come to stand on the wheel: ahead
# stands near places on from beat 0, and beat 0 stands back places on from behind. The first
# beat to come between is ahead + behind, near - back places on from beat 0: it is the new
# ahead where near is more than back, else the new behind. So behind * near + ahead * back
# stays the size. A width is never drawn down to 0, as there the lap would be over.
class Neighbours:
    def __init__(self, wheel):
        self.ahead = 1
        self.near = wheel.step
        self.behind = 1
        self.back = wheel.size - wheel.step

    def draw_ahead(self, most):
        times = min((self.near - 1) // self.back, most)
        self.ahead = self.ahead + times * self.behind
        self.near = self.near - times * self.back

    def draw_behind(self, most):
        times = min((self.back - 1) // self.near, most)
        self.behind = self.behind + times * self.ahead
        self.back = self.back - times * self.near


def around(wheel, many):
    check_beats("the number of first beats", many, 2, wheel.lap)
    zero = Neighbours(wheel)
    while zero.ahead + zero.behind < many:
        if zero.near > zero.back:
            zero.draw_ahead((many - 1 - zero.ahead) // zero.behind)
        else:
            zero.draw_behind((many - 1 - zero.behind) // zero.ahead)
    return (zero.ahead, zero.near, zero.behind, zero.back)


def check_first(wheel, many, beat):
    check_beats("the number of first beats", many, 1, wheel.lap)
    check_beats("the beat", beat, 0, many - 1)


def after(wheel, many, beat):
    check_first(wheel, many, beat)
    if many == 1:
        return beat
    four = around(wheel, many)
    return gone_on(many, beat, four[0], four[2])


def before(wheel, many, beat):
    check_first(wheel, many, beat)
    if many == 1:
        return beat
    four = around(wheel, many)
    # Going the other way round, ahead and behind change their parts.
    return gone_on(many, beat, four[2], four[0])


def gone_on(many, beat, ahead, behind):
    if beat + ahead < many:
        return beat + ahead
    if beat >= behind:
        return beat - behind
    return beat + ahead - behind


def gaps(wheel, many):
    check_beats("the number of first beats", many, 1, wheel.lap)
    if many == 1:
        return [(wheel.size, 1)]
    four = around(wheel, many)
    return counted_gaps(many, four[0], four[1], four[2], four[3])


def counted_gaps(many, ahead, near, behind, back):
    counts = {near: many - ahead}
    # near and back may be the same width, and each width is told once.
    counts[back] = counts.get(back, 0) + many - behind
    if ahead + behind > many:
        counts[near + back] = ahead + behind - many
    return sorted(counts.items())
