"""Earbells: a choir of bells that ring by ear."""
