"""Solids that are built of half spaces and boxes, worked with exactly."""
