package utf

const (
	greatest = 0x10ffff
	pairs    = 0xd800 // from here on stand the numbers that UTF-16 keeps for its pairs
	single   = 0xe000 // from here on there are signs again

	one   = 0x80    // below it a sign is one byte
	two   = 0x800   // below it a sign has two
	three = 0x10000 // below it a sign has three
)

func isSign(n int) bool {
	return n >= 0 && n <= greatest && (n < pairs || n >= single)
}

// width is how many bytes a sign has.
func width(sign rune) int {
	count := 1
	switch {
	case sign >= three:
		count++
		fallthrough
	case sign >= two:
		count++
		fallthrough
	case sign >= one:
		count++
	}
	return count
}

// add lays a sign's bytes behind others.
func add(to []byte, sign rune) []byte {
	switch width(sign) {
	case 1:
		return append(to, byte(sign))
	case 2:
		return append(to, 0xc0|byte(sign>>6), next(sign))
	case 3:
		return append(to, 0xe0|byte(sign>>12), next(sign>>6), next(sign))
	default:
		return append(to, 0xf0|byte(sign>>18), next(sign>>12), next(sign>>6), next(sign))
	}
}

// next is a byte that stands behind a sign's first one: it has the lower six bits.
func next(bits rune) byte { return 0x80 | byte(bits)&0x3f }

// bytesOf are numbers' bytes, if all are signs.
func bytesOf(l []int) (string, error) {
	var all []byte
	for i, n := range l {
		if !isSign(n) {
			return "", fault{at: i, why: noSign{n}}
		}
		all = add(all, rune(n))
	}
	return string(all), nil
}
