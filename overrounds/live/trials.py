"""Trials of a desk."""


class Trial:
    """A block behind which a desk is as it was ahead of it."""

    def __init__(self, desk):
        self._desk = desk
        self._now = None
        self._past = ()

    def __enter__(self):
        self._now = self._desk._now
        self._past = self._desk._past
        return self._desk

    def __exit__(self, kind, value, trace):
        desk = self._desk
        desk._now = self._now
        desk._past = self._past
