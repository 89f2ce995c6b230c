"""Drawing programs whose floods are held, or leak, on canvases of all sizes."""
