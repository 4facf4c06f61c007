"""Tripmeans: programs of sums whose registers trip at a bound that nobody tells."""
