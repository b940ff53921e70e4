"""Frames in the plane, the loads that they carry, and the ways in which they give way."""
