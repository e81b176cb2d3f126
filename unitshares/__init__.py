"""Fractions told as sums of unlike shares."""
