"""Clocks: they show moments as texts, and read them. For the clock of a numbering, moments are frames."""

from cuetimer.moments import read_frame, read_moment, show_frame, show_moment


class Clock:
    pass


class Thousandths(Clock):
    def show(self, moment):
        return show_moment(moment)

    def read(self, text):
        return read_moment(text)


class Frames(Clock):
    def __init__(self, numbering):
        self.numbering = numbering

    def show(self, moment):
        return show_frame(self.numbering, moment)

    def read(self, text):
        return read_frame(self.numbering, text)
