"""Papers: steps that make facts of facts, and ends by which there can be no answer."""
