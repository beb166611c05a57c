"""Twonests: each thing at one of two places."""
