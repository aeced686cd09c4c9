"""Latchroads: walkers who go through latches, one behind the other."""
