package part

import (
	"errors"
	"strconv"

	"latiner/api"
)

// The parts' names, as faults tell them.
const (
	aControl = "control"
	anAttr   = "attribute"
	aChange  = "change"
	aResult  = "result"
)

var (
	errOid   = errors.New("no OID")
	errName  = errors.New("no attribute's name")
	errDn    = errors.New("no name's text")
	errText  = errors.New("a text that is not right")
	errLong  = errors.New("too many bytes, or none")
	errCount = errors.New("too many in it, or too few")
	errValue = errors.New("a value, though it has none")
	errLeast = errors.New("no least count of values")
	errCode  = errors.New("no result's code")
	errFalse = errors.New("what is not so is not told")
	errTree  = errors.New("something in a tree that it has not")
)

// noKind is a number that no kind of change has.
type noKind struct{ kind int }

func (n noKind) Error() string { return "no kind of change: " + strconv.Itoa(n.kind) }

// noTree is a tag that is asked for where another tree stands, or none.
type noTree struct{ tag int }

func (n noTree) Error() string { return "no tree with the tag " + strconv.Itoa(n.tag) }

// noBytes is what layer 3 said where some bytes are no number's, or no boolean's.
type noBytes struct{ e api.Errno }

func (n noBytes) Error() string { return "no bytes: error " + strconv.Itoa(int(n.e)) }

// fault wraps what is wrong with the name of the part where it is.
type fault struct {
	part string
	why  error
}

func (f fault) Error() string { return "in the " + f.part + ": " + f.why.Error() }

func (f fault) Unwrap() error { return f.why }

// errnoOf is the number of what is wrong, wrapped or not; OK, if nothing is.
func errnoOf(err error) api.Errno {
	var kind noKind
	var tree noTree
	var bytes noBytes
	switch {
	case errors.As(err, &kind), errors.As(err, &tree), errors.As(err, &bytes):
		return api.ErrPart
	case errors.Is(err, errOid), errors.Is(err, errName), errors.Is(err, errDn), errors.Is(err, errText):
		return api.ErrPart
	case errors.Is(err, errLong), errors.Is(err, errCount), errors.Is(err, errValue), errors.Is(err, errLeast):
		return api.ErrPart
	case errors.Is(err, errCode), errors.Is(err, errFalse), errors.Is(err, errTree):
		return api.ErrPart
	}
	return api.OK
}
