package code

const (
	sixes  = "ABCDEFGHIJKLMNOPQRSTUVWXYZabcdefghijklmnopqrstuvwxyz0123456789+/"
	digits = "0123456789abcdef"
	greats = "ABCDEF" // count as the digits from ten on

	ten   = 10
	most  = 64  // how many signs a code has at most
	ascii = 128 // below it are all signs
)

// signs are those of a code, each of which tells a number.
type signs struct {
	printed [most]byte
	numbers [ascii]int8 // one more than each sign's, so that 0 says that there is no such sign
}

// take has signs tell the numbers from a first one on; for a number that had a sign both are read, the new one is printed.
func (l *signs) take(first int, text string) {
	for i, sign := range text {
		l.printed[first+i] = byte(sign)
		l.numbers[sign] = int8(first + i + 1)
	}
}

func (l *signs) sign(n int) byte { return l.printed[n] }

// number is what a sign tells, if it is one.
func (l *signs) number(sign rune) (int, bool) {
	if sign >= ascii || l.numbers[sign] == 0 {
		return 0, false
	}
	return int(l.numbers[sign]) - 1, true
}
