"""Bounds by tones, and rows that tell of them."""
