"""Glazebench: glass scored from edge to edge."""
