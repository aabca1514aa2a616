"""Yarnback: yarn given out to homes and taken in as cloth."""
