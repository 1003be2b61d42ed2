"""Likehands: any number of like hands, judged at once."""
