package part

import (
	"slices"

	"latiner/api"
	"latiner/filt"
	"latiner/utf"
)

// codeOfRefs is the one code whose results tell where else may be asked.
const codeOfRefs = 10

// rule is what a part must keep, and what is wrong if it does not.
type rule struct {
	kept bool
	why  error
}

// broken is what is wrong with a part by the first rule that is not kept.
func broken(part string, rules ...rule) error {
	for _, r := range rules {
		if !r.kept {
			return fault{part: part, why: r.why}
		}
	}
	return nil
}

// checkControl says why a control is not right.
func checkControl(c api.Control) error {
	return broken(aControl,
		rule{IsOid(c.Oid), errOid},
		rule{len(c.Value) <= api.MaxData, errLong},
		rule{c.Has || c.Value == "", errValue},
	)
}

// checkAttr says why an attribute of so many values at least is not right.
func checkAttr(a api.Attr, least int) error {
	return broken(anAttr,
		rule{least == 0 || least == 1, errLeast},
		rule{filt.IsName(a.Name), errName},
		rule{len(a.Values) >= least && len(a.Values) <= api.MaxValues, errCount},
		rule{!slices.ContainsFunc(a.Values, isLong), errLong},
	)
}

func isLong(value string) bool { return len(value) > api.MaxData }

// checkChange says why a change is not right: just what is added must be something.
func checkChange(c api.Change) error {
	least := 0
	switch c.Kind {
	case api.ToAdd:
		least = 1
		fallthrough
	case api.ToDelete, api.ToReplace:
		return checkAttr(c.Attr, least)
	}
	return fault{part: aChange, why: noKind{c.Kind}}
}

// checkResult says why a result is not right.
func checkResult(r api.Result) error {
	least, most := 0, 0
	if r.Code == codeOfRefs {
		least, most = 1, api.MaxRefs
	}
	return broken(aResult,
		rule{r.Code >= 0 && r.Code <= api.MaxCode, errCode},
		rule{IsDn(r.Dn), errDn},
		rule{len(r.Text) <= api.MaxText, errLong},
		rule{utf.Right(r.Text), errText},
		rule{len(r.Refs) >= least && len(r.Refs) <= most, errCount},
		rule{!slices.ContainsFunc(r.Refs, isNoRef), errText},
	)
}

func isNoRef(s string) bool { return s == "" || len(s) > api.MaxText || !utf.Right(s) }
