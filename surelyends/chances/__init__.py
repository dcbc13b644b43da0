"""Chances of procedures, how they call one another, and weights of them."""
