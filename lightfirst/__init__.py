"""Lightfirst: a store of versions, turned from one keeping into another in the least room."""
