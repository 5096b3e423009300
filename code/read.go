package code

import "caddis/api"

// reader goes through octets, from the left on.
type reader struct {
	s  string
	at int
}

// next is the octet at hand, and goes past it; false, if there is none any more.
func (r *reader) next() (byte, bool) {
	if r.at == len(r.s) {
		return 0, false
	}
	r.at++
	return r.s[r.at-1], true
}

// readValue is the value whose octets next tells.
func readValue(next func() (byte, bool)) (api.Value, api.Errno) {
	kind, ok := next()
	v := api.Value{Kind: int(kind)}
	switch v.Kind {
	case api.Int:
		v.I, ok = readNumber(next)
	case api.Text:
		v.S, ok = readText(next)
	case api.Bool:
		v.I, ok = readTruth(next)
	}
	if !ok {
		return api.Value{}, api.ErrShort
	}
	// A kind that there is not, a truth that is neither, and a text that is none are met all at once.
	if mayNot(v) {
		return api.Value{}, api.ErrForm
	}
	return v, api.OK
}

// readNumber is a number; false, if the octets end ahead of its end.
func readNumber(next func() (byte, bool)) (int64, bool) {
	var u uint64
	for range wide {
		o, ok := next()
		if !ok {
			return 0, false
		}
		u = u<<8 | uint64(o)
	}
	return int64(u - below), true
}

// readText is what stands ahead of a nought; false, if there is none.
func readText(next func() (byte, bool)) (string, bool) {
	var b []byte
	for o, ok := next(); ok; o, ok = next() {
		if o == 0 {
			return string(b), true
		}
		b = append(b, o)
	}
	return "", false
}

// readTruth is a Bool's octet; false, if there is none.
func readTruth(next func() (byte, bool)) (int64, bool) {
	o, ok := next()
	return int64(o), ok
}
