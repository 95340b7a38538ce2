package filt

import (
	"iter"
	"slices"
	"strings"

	"latiner/api"
	"latiner/esc"
)

// text is what is read from.
type text struct{ s string }

// end is the place behind all bytes.
func (t text) end() int { return len(t.s) }

// piece are the bytes between two places, as far as there are any.
func (t text) piece(from, to int) string { return t.s[min(from, t.end()):min(to, t.end())] }

// has tells whether a sign stands at a place.
func (t text) has(at int, sign string) bool { return t.piece(at, at+len(sign)) == sign }

// upTo are the bytes from a place up to the next sign; it tells whether there is one.
func (t text) upTo(at int, sign string) (string, bool) {
	piece, _, found := strings.Cut(t.s[at:], sign)
	return piece, found
}

// reader reads a filter; all ahead of its place is read.
type reader struct {
	text
	at    int
	kinds map[string]int
}

// read is the filter that a text tells, if it is right.
func read(s string) (api.Filter, error) {
	r := reader{text: text{s}, kinds: kinds()}
	f, err := r.filter(1)
	if err == nil && r.at < r.end() {
		err = fault{at: r.at, why: errMore}
	}
	if err != nil {
		return api.Filter{}, err
	}
	return f, nil
}

// filter is the one that begins at the reader's place and stands so deep; it is looked at when all of it is read, whichever way that was done.
func (r *reader) filter(deep int) (f api.Filter, err error) {
	from := r.at
	defer func() {
		if err == nil {
			err = fits(f)
		}
		if err != nil {
			f, err = api.Filter{}, fault{at: from, why: err}
		}
	}()
	if deep > api.MaxDepth {
		return f, errDeep
	}
	if !r.take(opens) {
		return f, errSign
	}
	f, err = r.body(deep)
	if err == nil && !r.take(closes) {
		err = errSign
	}
	return f, err
}

// take goes on behind a sign, if it stands there.
func (r *reader) take(sign string) bool {
	if !r.has(r.at, sign) {
		return false
	}
	r.at += len(sign)
	return true
}

// body is what stands between a filter's signs.
func (r *reader) body(deep int) (api.Filter, error) {
	sign := r.piece(r.at, r.at+1)
	kind, found := r.kinds[sign]
	if !found || !isOfFilters(kind) {
		return r.condition()
	}
	r.at += len(sign)
	f := api.Filter{Kind: kind}
	var wrong error
filters:
	for one, err := range r.filters(deep + 1) {
		switch {
		case err != nil:
			wrong = err
			break filters
		case len(f.L) == api.MaxIn: // however many stand behind
			wrong = errCount
			break filters
		}
		f.L = append(f.L, one)
	}
	return f, wrong
}

// filters are those from the reader's place on, as long as one begins there; an error is the last that is told.
func (r *reader) filters(deep int) iter.Seq2[api.Filter, error] {
	return func(yield func(api.Filter, error) bool) {
		for r.has(r.at, opens) {
			f, err := r.filter(deep)
			if !yield(f, err) || err != nil {
				return
			}
		}
	}
}

// condition is a filter without others in it.
func (r *reader) condition() (api.Filter, error) {
	piece, closed := r.upTo(r.at, closes)
	name, told, parted := strings.Cut(piece, equals)
	if !closed || !parted {
		return api.Filter{}, errSign
	}
	r.at += len(piece)
	kind := api.Equal
	last := max(len(name)-1, 0)
	if compared, found := r.kinds[name[last:]+equals]; found {
		name, kind = name[:last], compared
	}
	f, err := readValues(kind, told)
	f.Name = strings.Clone(name) // a copy, so that a filter does not keep its text
	return f, err
}

// readValues are what stands behind a sign, which is that of Equal, Present and Subs alike.
func readValues(kind int, told string) (api.Filter, error) {
	switch {
	case kind != api.Equal || !strings.Contains(told, star):
		value, err := readValue(told)
		return api.Filter{Kind: kind, Value: value}, err
	case told == star:
		return api.Filter{Kind: api.Present}, nil
	case strings.Count(told, star) > api.MaxAny+1: // however many stand behind
		return api.Filter{}, errCount
	}
	return readPieces(told)
}

// readPieces is what stands ahead of, between and behind stars.
func readPieces(told string) (api.Filter, error) {
	var all []string
	for piece := range strings.SplitSeq(told, star) {
		value, err := readValue(piece)
		if err != nil {
			return api.Filter{}, err
		}
		all = append(all, value)
	}
	last := len(all) - 1
	return api.Filter{Kind: api.Subs, Value: all[0], Any: slices.Clone(all[1:last]), Final: all[last]}, nil
}

func readValue(told string) (string, error) {
	value, e := esc.ReadFilter(told)
	if e != api.OK {
		return "", noValue{e}
	}
	return value, nil
}
