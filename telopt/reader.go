package telopt

import "gangway/api"

// Behind what a Reader is: what its next byte means hangs on that.
const (
	behindData   = iota // or behind a whole part
	behindIAC           // a 255
	behindVerb          // whose option comes
	behindSB            // the beginning of a part of an option, whose option comes
	behindSub           // some of its data
	behindSubIAC        // a 255 among them
)

// Reader takes bytes piece by piece, and gives parts.
type Reader struct {
	behind int
	part   api.Tel   // the verb, or the part of an option, that isn't whole yet
	failed api.Errno // what was met: where the next part begins can't be told any more
}

// NewReader gives a Reader to which nothing came.
func NewReader() *Reader { return &Reader{} }

// Feed takes a piece.
func (r *Reader) Feed(data []byte) ([]api.Tel, api.Errno) {
	var parts []api.Tel
	for _, c := range data {
		if r.failed != api.OK {
			break
		}
		parts = r.take(c, parts)
	}
	if r.failed != api.OK {
		return nil, r.failed
	}
	return parts, api.OK
}

// take takes a byte, and gives the parts with what it makes whole.
func (r *Reader) take(c byte, parts []api.Tel) []api.Tel {
	switch r.behind {
	case behindData:
		if c != api.TelIAC {
			return withData(parts, c)
		}
		r.behind = behindIAC
	case behindIAC:
		return r.takeBehindIAC(c, parts)
	case behindVerb:
		r.part.Option = int(c)
		return r.whole(parts)
	case behindSB:
		r.part.Option = int(c)
		r.behind = behindSub
	case behindSub:
		if c == api.TelIAC {
			r.behind = behindSubIAC
		} else {
			r.addData(c)
		}
	case behindSubIAC:
		return r.takeBehindSubIAC(c, parts)
	}
	return parts
}

// takeBehindIAC takes a byte behind a 255 that stands in no part of an option.
func (r *Reader) takeBehindIAC(c byte, parts []api.Tel) []api.Tel {
	r.behind = behindData
	switch {
	case c == api.TelIAC:
		return withData(parts, c)
	case isVerb(int(c)):
		r.behind, r.part = behindVerb, api.Tel{Kind: api.TelVerb, Verb: int(c)}
	case c == api.TelSB:
		r.behind, r.part = behindSB, api.Tel{Kind: api.TelSub}
	case c <= api.TelSE:
		r.fail(api.ErrForm)
	}
	return parts
}

// takeBehindSubIAC takes a byte behind a 255 that stands in a part of an option.
func (r *Reader) takeBehindSubIAC(c byte, parts []api.Tel) []api.Tel {
	switch c {
	case api.TelIAC:
		r.behind = behindSub
		r.addData(c)
	case api.TelSE:
		return r.whole(parts)
	default:
		r.fail(api.ErrForm)
	}
	return parts
}

// addData puts a byte behind the data of the part of an option.
func (r *Reader) addData(c byte) {
	if len(r.part.Data) == maxData {
		r.fail(api.ErrLong)
		return
	}
	r.part.Data = append(r.part.Data, c)
}

// whole gives the parts with the one that is whole now; none is begun behind it.
func (r *Reader) whole(parts []api.Tel) []api.Tel {
	parts = append(parts, r.part)
	r.behind, r.part = behindData, api.Tel{}
	return parts
}

// fail ends the reading.
func (r *Reader) fail(e api.Errno) { r.failed, r.part = e, api.Tel{} }

// withData gives the parts with a byte of data, which goes to the last one, if that is data.
func withData(parts []api.Tel, c byte) []api.Tel {
	if len(parts) == 0 || parts[len(parts)-1].Kind != api.TelData {
		parts = append(parts, api.Tel{Kind: api.TelData})
	}
	last := &parts[len(parts)-1]
	last.Data = append(last.Data, c)
	return parts
}
