"""Services: kitchens at work, in which dishes are started and beats pass."""

from mixpace.errors import NotEnough
from mixpace.standings import after_beat, after_start, empty_standing


class Service:
    """A service of a kitchen. It keeps the kitchen itself, so that a tool can be closed while it goes on."""

    def __init__(self, kitchen):
        self._kitchen = kitchen
        self._standing = empty_standing(kitchen)
        self._windows = [_no_starts(kitchen)]
        self._first = 0
        self._second = 0

    @property
    def standing(self):
        """The present standing."""
        return self._standing

    @property
    def row(self):
        """The windows of all beats up to the present one, as a new list."""
        return [tuple(window) for window in self._windows]

    @property
    def totals(self):
        """The totals of the row."""
        return (self._first, self._second, len(self._windows))

    def start(self, index):
        """Starts a dish in the present beat, or raises NoDish or NotEnough."""
        self._standing = self._after_start(index)
        self._windows[-1][index] += 1
        first, second = self._kitchen.menu[index].worths
        self._first += first
        self._second += second

    def wait(self, beats=1):
        """Lets this many beats pass."""
        for _ in range(beats):
            self._standing = after_beat(self._standing)
            self._windows.append(_no_starts(self._kitchen))

    def _after_start(self, index):
        try:
            return after_start(self._kitchen, self._standing, index)
        except NotEnough as lack:
            present = len(self._windows) - 1
            raise NotEnough(present + lack.beat, lack.tool) from None


def serve_closed(service, tool, indexes):
    """Starts each dish that fits while the tool is closed, and returns the list of what was started."""
    with service._kitchen.closed(tool):
        return _start_what_fits(service, indexes)


def _start_what_fits(service, indexes):
    started = []
    for index in indexes:
        try:
            service.start(index)
            started.append(index)
        except NotEnough:
            pass
    return started


def _no_starts(kitchen):
    return [0] * len(kitchen.menu)
