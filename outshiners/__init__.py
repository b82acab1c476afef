"""Outshiners: lamps that take the brighter light, and all that can come of it."""
