"""Programs for many hands, played by few, whoever stops."""
