package dn

// place says where in a word a byte stands.
type place int

const (
	ahead  place = iota // it is the first one
	behind              // it is a later one
)

// fits tells whether a byte may stand in a word; a later one may be all that the first one may.
func fits(p place, b byte) bool {
	switch p {
	case behind:
		if isDigit(b) || b == '-' {
			return true
		}
		fallthrough
	case ahead:
		return isLetter(b)
	}
	return false
}

func isLetter(b byte) bool { return 'A' <= b && b <= 'Z' || 'a' <= b && b <= 'z' }

func isDigit(b byte) bool { return '0' <= b && b <= '9' }

// isWord tells whether a text is a type by letters.
func isWord(s string) bool {
	where := ahead
	for at := range len(s) {
		if !fits(where, s[at]) {
			return false
		}
		where = behind
	}
	return s != ""
}

// isNumbers tells whether a text is a type by numbers.
func isNumbers(s string) bool {
	dots := cutter{text: text{s}, sign: '.'}
	count := 0
	for _, piece := range dots.pieces() {
		if !isNumber(piece) {
			return false
		}
		count++
	}
	return count > 1
}

// isNumber tells whether a text is digits, and no nought is ahead of another one.
func isNumber(s string) bool {
	for at := range len(s) {
		if !isDigit(s[at]) {
			return false
		}
	}
	return s == "0" || s != "" && s[0] != '0'
}
