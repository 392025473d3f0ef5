package code

import (
	"loom/api"
	"loom/wire"
)

// Put: the bytes of l: how many there are, then each one; ErrBig, if there are too many, ErrOp, if one is none.
func Put(l []api.Ins) ([]byte, api.Errno) {
	if len(l) > api.MaxCode {
		return nil, api.ErrBig
	}
	w := wire.New()
	w.Uint(uint64(len(l)))
	at := 0
next:
	if at == len(l) {
		return w.Bytes(), api.OK
	}
	if !Is(l[at]) {
		return nil, api.ErrOp
	}
	write(w, l[at])
	at++
	goto next
}

// Get: the instructions of which Put makes b; else the error that shows first along the bytes.
func Get(b []byte) ([]api.Ins, api.Errno) {
	r := wire.Open(b)
	count, err := r.Count(api.MaxCode)
	if err != api.OK {
		return nil, err
	}
	list := make([]api.Ins, 0, count)
next:
	if len(list) < count {
		i, err := read(r)
		if err != api.OK {
			return nil, err
		}
		list = append(list, i)
		goto next
	}
	if r.Left() > 0 {
		return nil, api.ErrForm
	}
	return list, api.OK
}

// write takes it that i is one (Is).
func write(w *wire.Writer, i api.Ins) {
	w.Byte(byte(i.Op))
	if Operand(i.Op) != none {
		w.Uint(uint64(i.A))
	}
}

func read(r *wire.Reader) (api.Ins, api.Errno) {
	b, err := r.Byte()
	if err != api.OK {
		return api.Ins{}, err
	}
	op := int(b)
	switch Operand(op) {
	case noOp:
		return api.Ins{}, api.ErrOp
	case none:
		return api.Ins{Op: op}, api.OK
	}
	a, err := r.Uint()
	if err != api.OK {
		return api.Ins{}, err
	}
	// Asked ahead of a narrower number: a great operand isn't to wrap into one that may be.
	if a > mostOperand {
		return api.Ins{}, api.ErrOp
	}
	return api.Ins{Op: op, A: int(a)}, api.OK
}
