"""Bitdraws: draws of told shapes from plain bits."""
