"""The lines as they are edited: each change can be undone and done again."""

MOST_UNDOABLE = 20


class Sheet:
    """The lines, those ahead of each change that can be undone, those that can be done again.

    A list of lines is never changed once it's here: a change brings another list.
    """

    def __init__(self):
        self.lines = []
        self.earlier = []
        self.undone = []

    def change(self, lines):
        """Make these the lines; what was undone before can't be done again."""
        self.earlier.append(self.lines)
        if len(self.earlier) > MOST_UNDOABLE:
            self.earlier.pop(0)
        self.undone = []
        self.lines = lines

    def undo(self):
        """Undo the last change; there must be one in earlier."""
        self.undone.append(self.lines)
        self.lines = self.earlier.pop()

    def redo(self):
        """Do again what was undone last; there must be one in undone."""
        # No need to look at MOST_UNDOABLE: what is done again was taken from earlier before.
        self.earlier.append(self.lines)
        self.lines = self.undone.pop()
