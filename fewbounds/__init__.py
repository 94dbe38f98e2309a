"""Fewbounds: the cheapest set of bounds to declare between packages so that no installation breaks."""
