"""Slopes, the way back from them, and papers where there is none."""
