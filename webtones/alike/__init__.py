"""Webs compared with one another."""
