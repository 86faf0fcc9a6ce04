"""The numbers by which a call is refused."""

NOT_AS_TOLD = -1
FULL = -3
NOT_THERE = -5
NOT_NOW = -6
