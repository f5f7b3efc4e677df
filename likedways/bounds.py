"""How many of each thing there may be, and the text between a way's houses."""

HOUSES = 7
LIKED = 6
STANDS = 1000
DROPS = 12
MOST = 400
DEEP = 6
DASH = "-"
