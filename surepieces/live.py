"""A book to be worked on: windows are put to it and taken from it, and each such deed can be taken back."""

from surepieces.books import check_size, has_ring, is_windows
from surepieces.common import rebuilt
from surepieces.errors import Empty, InvalidPiece, InvalidWindows, Nothing
from surepieces.longest import longest
from surepieces.shortest import shortest
from surepieces.spare import needed
from surepieces.sure import is_sure


class Live:
    """A size, windows, perhaps none, and the deeds that made them so."""

    def __init__(self, size, windows):
        check_size(size)
        if not is_windows(size, windows):
            raise InvalidWindows(rebuilt(windows))
        self._size = size
        self._windows = windows
        self._story = ()

    def __len__(self):
        return len(self._windows)

    def __eq__(self, other):
        return isinstance(other, Live) and self._size == other._size and self._windows == other._windows

    @property
    def size(self):
        """The number of letters of each window."""
        return self._size

    @property
    def windows(self):
        """The ascending tuple of the windows."""
        return self._windows

    @property
    def story(self):
        """The tuple of the deeds that stand, the eldest first."""
        return self._story

    def put(self, window):
        """Puts a window that is not there to the windows."""
        if not is_windows(self._size, (window,)) or window in self._windows:
            raise InvalidPiece(rebuilt(window))
        self._windows = with_window(self._windows, window)
        self._story = self._story + (("put", window),)

    def take(self, window):
        """Takes a window that is there from the windows."""
        if not isinstance(window, str) or window not in self._windows:
            raise InvalidPiece(rebuilt(window))
        self._windows = without_window(self._windows, window)
        self._story = self._story + (("take", window),)

    def back(self):
        """Takes the last deed that stands back, and returns its word."""
        if not self._story:
            raise Nothing(None)
        word, window = self._story[-1]
        if word == "put":
            self._windows = without_window(self._windows, window)
        else:
            self._windows = with_window(self._windows, window)
        self._story = self._story[:-1]
        return word

    def book(self):
        """Returns the book with the size and the windows."""
        if not self._windows:
            raise Empty(None)
        return (self._size, self._windows)

    def has_ring(self):
        """Tells whether some ring text fits the book; none does without a window."""
        return self._windows != () and has_ring(self.book())

    def is_sure(self, piece):
        """Tells whether a piece stands in each ring text that fits the book."""
        return is_sure(self.book(), piece)

    def shortest(self):
        """Returns the least number of letters of a ring text that fits the book."""
        return shortest(self.book())

    def needed(self):
        """Returns the ascending list of the windows each of which alone may not go."""
        return needed(self.book())

    def longest(self):
        """Returns the ascending list of the longest sure pieces."""
        return longest(self.book())

    def twin(self):
        """Returns a Live with the same windows and the same deeds; each goes on by itself."""
        other = Live(self._size, self._windows)
        other._story = self._story
        return other


def with_window(windows, window):
    """Returns the ascending tuple of windows and one more."""
    return tuple(sorted(windows + (window,)))


def without_window(windows, window):
    """Returns the tuple of windows without one of them."""
    return tuple([other for other in windows if other != window])
