"""The bounds that the document gives a name."""

MOST = 2000
HIGHEST = 3
