"""Ringdepth: how deep a wish for ever is."""
