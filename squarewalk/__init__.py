"""Squarewalk: walks of steps north, east, south and west."""
