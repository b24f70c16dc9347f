"""Programs whose running state outlives crashes."""
