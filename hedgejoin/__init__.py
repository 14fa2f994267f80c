"""Hedgejoin: fields around a pond whose hedges never cross, and all that can come of them."""
