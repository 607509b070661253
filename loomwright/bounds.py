"""How great drafts and cloths can be."""

MOST_SHAFTS = 16
MOST_TREADLES = 16
MOST_ENDS = 60
MOST_PICKS = 60
