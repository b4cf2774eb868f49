"""Choices: of few columns, and of whole weights."""
