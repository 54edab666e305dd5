"""Beatferry: letters that cross by one bit a beat."""
