"""Numbers that bound what is looked through and what a stand has."""

MOST = 400
PAIRS = 4000
DEEP = 3
SEEN = 9
