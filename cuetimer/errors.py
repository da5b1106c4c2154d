"""The refusals. Each is a CueError, and none stands under another one."""


class CueError(ValueError):
    pass


class NoLabel(CueError):
    pass


class NoTime(CueError):
    pass


class NoCue(CueError):
    def __init__(self, row):
        CueError.__init__(self, f"row {row} is no row of cues")
        self.row = row


class NoPlace(CueError):
    pass


class NoRoom(CueError):
    def __init__(self, at):
        CueError.__init__(self, f"no room for the cue at place {at}")
        self.at = at


class NoParting(CueError):
    pass


class NoJoin(CueError):
    pass


class NoTiming(CueError):
    def __init__(self, ring):
        CueError.__init__(self, "no timing keeps all rules that must be kept")
        # A copy, for whoever made the error may go on changing the list.
        self.ring = list(ring)


class NoName(CueError):
    pass


class NoNumber(CueError):
    pass


class NoRow(CueError):
    pass
