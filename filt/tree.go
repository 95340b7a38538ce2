package filt

import (
	"iter"
	"slices"

	"latiner/api"
)

// all are the filters in a filter, itself first, from the left, each with how deep it stands.
func all(f api.Filter) iter.Seq2[int, api.Filter] {
	return func(yield func(int, api.Filter) bool) { pass(f, 1, yield) }
}

// pass tells whether more is wanted, so that a filter that is too great is left as soon as that is known.
func pass(f api.Filter, deep int, yield func(int, api.Filter) bool) bool {
	if !yield(deep, f) {
		return false
	}
	for _, one := range f.L {
		if !pass(one, deep+1, yield) {
			return false
		}
	}
	return true
}

// check says why a filter is not right; the place is how many filters stand ahead of the one where that is seen.
func check(f api.Filter) error {
	var why error
	at := 0
filters:
	for deep, one := range all(f) {
		why = fits(one)
		switch {
		case deep > api.MaxDepth:
			why = errDeep
			break filters
		case why != nil:
			break filters
		}
		at++
	}
	if why != nil {
		return fault{at: at, why: why}
	}
	return nil
}

// rule is what a filter must keep, and what is wrong if it does not.
type rule struct {
	kept bool
	why  error
}

// broken is what is wrong by the first rule that is not kept.
func broken(rules ...rule) error {
	for _, r := range rules {
		if !r.kept {
			return r.why
		}
	}
	return nil
}

// fits says why a filter is not what its kind asks for; those in it are not looked at.
func fits(f api.Filter) error {
	most, longest := api.MaxIn, 0
	switch f.Kind {
	case api.Not:
		most = 1
		fallthrough
	case api.And, api.Or:
		return broken(
			rule{len(f.L) > 0 && len(f.L) <= most, errCount},
			rule{f.Name == "" && f.Value == "", errField},
			rule{len(f.Any) == 0 && f.Final == "", errField},
		)
	case api.Equal, api.Greater, api.Less, api.Approx:
		longest = api.MaxValue
		fallthrough
	case api.Present:
		return broken(
			rule{IsName(f.Name), errName},
			rule{len(f.Value) <= longest, errLong},
			rule{len(f.Any) == 0 && f.Final == "", errField},
			rule{len(f.L) == 0, errField},
		)
	case api.Subs:
		return broken(
			rule{IsName(f.Name), errName},
			rule{len(f.Any) <= api.MaxAny, errCount},
			rule{!slices.ContainsFunc(f.Any, isNoPiece), errLong},
			rule{len(f.Value) <= api.MaxValue && len(f.Final) <= api.MaxValue, errLong},
			rule{f.Value != "" || len(f.Any) > 0 || f.Final != "", errCount},
			rule{len(f.L) == 0, errField},
		)
	}
	return noKind{f.Kind}
}

func isNoPiece(s string) bool { return s == "" || len(s) > api.MaxValue }
