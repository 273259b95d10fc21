"""The tests of heldorder; they use only the interface that the document lists."""
