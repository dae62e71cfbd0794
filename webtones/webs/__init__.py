"""Webs: places tied two by two."""
