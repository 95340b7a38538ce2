package filt

import (
	"strings"

	"latiner/api"
	"latiner/esc"
)

// printer tells the texts of filters that are right.
type printer struct{ signs map[int]string }

func (p printer) text(f api.Filter) string {
	switch {
	case isOfFilters(f.Kind):
		all := []string{p.signs[f.Kind]}
		for _, one := range f.L {
			all = append(all, p.text(one))
		}
		return enclosed(all...)
	case f.Kind == api.Subs:
		return enclosed(f.Name, equals, pieces(f))
	}
	return enclosed(f.Name, p.signs[f.Kind], esc.Filter(f.Value)) // of Present the value is empty
}

// pieces are what Subs asks for, with stars between.
func pieces(f api.Filter) string {
	all := []string{esc.Filter(f.Value)}
	for _, s := range f.Any {
		all = append(all, esc.Filter(s))
	}
	all = append(all, esc.Filter(f.Final))
	return strings.Join(all, star)
}

func enclosed(all ...string) string { return opens + strings.Join(all, "") + closes }
