"""Flipstack: piles of cakes put in order by turning over their beginnings."""
