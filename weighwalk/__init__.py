"""Weighwalk: machines whose ways have weights."""
