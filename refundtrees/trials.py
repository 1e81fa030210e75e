"""Trials: blocks behind which what was played is as it was ahead of them, unless they are kept."""


class Trial:
    """Used once with `with`; gives what is played, all that changes of which is its attribute _state."""

    def __init__(self, played):
        self._played = played
        self._ahead = None
        # None or True: what is asked when a block is left is asked by `is None` alone.
        self._kept = None

    def keep(self):
        """What was done stays, if no exception leaves the block."""
        self._kept = True

    def __enter__(self):
        self._ahead = self._played._state
        return self._played

    def __exit__(self, kind, value, trace):
        if kind is not None or self._kept is None:
            self._played._state = self._ahead


def tried_out(played, guest, kept):
    """What a guest returns that is called with what is played within a trial, which is kept if kept is True."""
    trial = Trial(played)
    with trial as given:
        told = guest(given)
        if kept is True:
            trial.keep()
    return told
