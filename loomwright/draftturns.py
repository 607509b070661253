"""Drafts turned, so that they weave the cloths turned."""

from loomwright.draft import Draft, changed_draft, shafts_but
from loomwright.errors import NotPlain


def mirrored_draft(draft):
    return changed_draft(draft, {"threading": list(reversed(draft.threading)), "warp": list(reversed(draft.warp))})


def upended_draft(draft):
    treading = [list(treadles) for treadles in reversed(draft.treading)]
    return changed_draft(draft, {"treading": treading, "weft": list(reversed(draft.weft))})


def need_plain(draft):
    for end, shaft in enumerate(draft.threading, start=1):
        if shaft == 0:
            raise NotPlain("end", end)
    for pick, treadles in enumerate(draft.treading, start=1):
        if len(treadles) != 1:
            raise NotPlain("pick", pick)


def inverted_draft(draft):
    need_plain(draft)
    return changed_draft(draft, {"ties": [shafts_but(tie, 1, draft.shafts) for tie in draft.ties]})


def treadles_without(ties, shaft):
    return [treadle for treadle, tie in enumerate(ties, start=1) if shaft not in tie]


def quartered_draft(draft):
    need_plain(draft)
    threading = [treadles[0] for treadles in draft.treading]
    ties = [treadles_without(draft.ties, shaft) for shaft in range(1, draft.shafts + 1)]
    treading = [[shaft] for shaft in draft.threading]
    return Draft(draft.treadles, draft.shafts, threading, ties, treading, list(draft.weft), list(draft.warp))
