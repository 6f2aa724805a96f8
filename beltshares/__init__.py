"""Beltshares: works of belts, their rounds and their shares for ever."""
