"""Fractions, and the roots of polynomials of them."""
