package part

// The tags that stand in parts' trees.
const (
	tagBool   = 0x01
	tagText   = 0x04
	tagNumber = 0x0a
	tagList   = 0x30
	tagValues = 0x31
	tagRefs   = 0xa3
)
