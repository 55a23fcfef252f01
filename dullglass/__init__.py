"""Dullglass: glasses that tell of the world, dulled, and compared in every decision."""
