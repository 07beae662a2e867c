package wire

import (
	"math"

	"moiety/api"
)

// Unpack is the values of bytes; else the error, and the place of what is wrong.
func Unpack(b []byte) (l []api.Value, place int, err api.Errno) {
	defer func() {
		p := recover()
		if p == nil {
			return
		}
		f, ok := p.(fault)
		if !ok {
			panic(p) // nothing that bytes can do
		}
		l, place, err = nil, f.place, f.err
	}()
	r := reader{b: b}
	return r.list(), 0, api.OK
}

// reader reads values off bytes, one behind the other. What is wrong in them it tells by a panic with a fault.
type reader struct {
	b     []byte
	at    int // how many bytes were read
	begin int // where the value that is being read begins
}

// fault is what is wrong, and the place of the value that is wrong.
type fault struct {
	place int
	err   api.Errno
}

// fail gives up.
func (r *reader) fail(err api.Errno) { panic(fault{r.begin, err}) }

// list reads all values up to the end.
func (r *reader) list() []api.Value {
	var l []api.Value
	for r.at < len(r.b) {
		r.begin = r.at
		if len(l) == api.MaxValues {
			r.fail(api.ErrWireMany)
		}
		l = append(l, r.value())
	}
	return l
}

// value reads a value.
func (r *reader) value() api.Value {
	v := api.Value{Kind: api.Kind(r.take(1)[0])}
	switch v.Kind {
	case api.KindUint:
		v.U = r.number()
	case api.KindInt:
		v.I = signed(r.number())
	case api.KindFloat:
		v.F = r.float()
	case api.KindText:
		v.S = r.text()
	default:
		r.fail(api.ErrWireKind)
	}
	return v
}

// take reads so many bytes.
func (r *reader) take(n int) []byte {
	if n > len(r.b)-r.at {
		r.fail(api.ErrWireShort)
	}
	r.at += n
	return r.b[r.at-n : r.at]
}

// number reads a number.
func (r *reader) number() uint64 {
	const lastShift = 63 // nine bytes have 63 bits: the tenth has room for one, and none may come behind it
	var n uint64
	for shift := 0; ; shift += lowBits {
		c := r.take(1)[0]
		if shift == lastShift && c > 1 || shift > 0 && c == 0 {
			r.fail(api.ErrWireLong)
		}
		n |= uint64(c&^more) << shift
		if c < more {
			return n
		}
	}
}

// float reads a float.
func (r *reader) float() float64 {
	var n uint64
	for _, c := range r.take(floatBytes) {
		n = n<<8 | uint64(c)
	}
	f := math.Float64frombits(n)
	if math.Float64bits(usual(f)) != n {
		r.fail(api.ErrWireFloat)
	}
	return f
}

// text reads a text.
func (r *reader) text() string {
	n := r.number()
	if n > api.MaxText { // held against the limit ahead of the bytes that there are
		r.fail(api.ErrWireText)
	}
	return string(r.take(int(n)))
}
