package rep

// The tags that stand in responses' trees, beside the operations' own and those of what comes beside a result.
const (
	noTag   = 0 // no tree in a response's has it
	tagText = 0x04
	tagList = 0x30
	tagRefs = 0xa3
)
