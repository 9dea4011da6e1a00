"""Page traces: which uses bring a page in, and how many pages are used together."""

from lentpages.choosers import Chooser


def page_ins(trace, frames, kind):
    """The positions at which the used page is not in a frame, if a chooser of the kind empties frames."""
    chooser = Chooser(kind, frames)
    pages = [None] * frames
    positions = []
    for at, page in enumerate(trace):
        if page in pages:
            chooser.touched(pages.index(page))
        else:
            positions.append(at)
            frame = _obtain_frame(pages, chooser)
            pages[frame] = page
            chooser.filled(frame)
    return positions


def working_set(trace, window):
    """For each position the number of different pages in the window that ends there."""
    return [len(set(trace[max(0, at - window + 1):at + 1])) for at in range(len(trace))]


def phases(trace, frames):
    """The first positions of the fewest stretches with at most so many different pages each."""
    starts = []
    pages = {}
    for at, page in enumerate(trace):
        if at == 0 or (page not in pages and len(pages) == frames):
            starts.append(at)
            pages = {}
        pages[page] = True
    return starts


def _obtain_frame(pages, chooser):
    """The empty frame with the lowest number, or one that the chooser empties."""
    if None in pages:
        return pages.index(None)
    frame = chooser.choose(list(range(len(pages))))
    chooser.emptied(frame)
    return frame
