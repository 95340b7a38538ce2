package part

import "latiner/api"

// readControl is the control whose tree one is; what is taken of another tree is not told.
func readControl(n api.Node) (c api.Control, err error) {
	defer func() {
		if err != nil {
			c = api.Control{}
		}
	}()
	t := inside(aControl, tagList, n)
	c.Oid = t.data(tagText)
	if t.comes(tagBool) {
		c.Critical = t.yes()
	}
	if t.comes(tagText) {
		c.Value, c.Has = t.data(tagText), true
	}
	if err = t.end(); err != nil {
		return c, err
	}
	return c, checkControl(c)
}

// readAttr is the attribute whose tree one is, if it has so many values at least.
func readAttr(n api.Node, least int) (a api.Attr, err error) {
	defer func() {
		if err != nil {
			a = api.Attr{}
		}
	}()
	t := inside(anAttr, tagList, n)
	a.Name = t.data(tagText)
	a.Values = t.texts(tagValues, 0, api.MaxValues)
	if err = t.end(); err != nil {
		return a, err
	}
	return a, checkAttr(a, least)
}

// readChange is the change whose tree one is; how many values it must have hangs on its kind, which stands ahead of them.
func readChange(n api.Node) (c api.Change, err error) {
	defer func() {
		if err != nil {
			c = api.Change{}
		}
	}()
	t := inside(aChange, tagList, n)
	c.Kind = t.number()
	attr := t.next(tagList)
	if err = t.end(); err != nil {
		return c, err
	}
	if c.Attr, err = readAttr(attr, 0); err != nil {
		return c, err
	}
	return c, checkChange(c)
}

// readResult is the result whose trees some are.
func readResult(l []api.Node) (r api.Result, err error) {
	defer func() {
		if err != nil {
			r = api.Result{}
		}
	}()
	t := taker{trees: trees{l}, part: aResult}
	r.Code = t.number()
	r.Dn = t.data(tagText)
	r.Text = t.data(tagText)
	if t.comes(tagRefs) {
		r.Refs = t.texts(tagRefs, 1, api.MaxRefs)
	}
	if err = t.end(); err != nil {
		return r, err
	}
	return r, checkResult(r)
}
