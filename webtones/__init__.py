"""Webtones: webs, and what rings in them, exactly."""
