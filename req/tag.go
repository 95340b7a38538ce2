package req

// The tags that stand in requests' trees, beside the operations' own.
const (
	tagBool     = 0x01
	tagNumber   = 0x02
	tagText     = 0x04
	tagChoice   = 0x0a
	tagList     = 0x30
	tagSimple   = 0x80
	tagMech     = 0xa3
	tagSuperior = 0x80
	tagOid      = 0x80
	tagValue    = 0x81
)
