"""Trials of live stores."""


class Trial:
    """What stands behind with: what a live store does from the making of the trial on is undone at the end."""

    def __init__(self, live):
        self.live = live
        self.moments = live.moments

    def __enter__(self):
        return self.live

    def __exit__(self, kind, value, trace):
        live = self.live
        live.moments = self.moments
