package class

import (
	"loom/api"
	"loom/code"
)

// Decode: the class of which Encode tells b; an error, if there is none.
func Decode(b []byte) (api.Class, api.Errno) {
	if len(b) > api.MaxFile {
		return api.Class{}, api.ErrBig
	}
	r := open(b)
	readMark(r)
	// Here, as in the literals below, calls are made in the order in which they are written, which is that of the bytes.
	c := api.Class{
		Name:    r.name(),
		Super:   r.name(),
		Pool:    readList(r, api.MaxPool, readConst),
		Fields:  readList(r, api.MaxFields, readField),
		Methods: readList(r, api.MaxMethods, readMethod),
	}
	r.end()
	if r.err == api.OK {
		// The reader takes each thing in one form alone: so, if Check takes c, b is what Encode tells of it.
		r.err = Check(c)
	}
	if r.err != api.OK {
		return api.Class{}, r.err
	}
	return c, api.OK
}

// readList reads how many there are, at most most, then each one.
func readList[T any](r *reader, most int, read func(r *reader) T) []T {
	count := r.count(most)
	list := make([]T, 0, count)
next:
	if len(list) == count || r.err != api.OK {
		return list
	}
	list = append(list, read(r))
	goto next
}

// readMark reads what the bytes of every class file begin with.
func readMark(r *reader) {
	for at := range len(mark) {
		if r.byte() != mark[at] {
			r.fail(api.ErrForm)
		}
	}
	if r.byte() != version {
		r.fail(api.ErrForm)
	}
}

// readConst reads nothing behind a kind that there isn't: Check refuses it.
func readConst(r *reader) api.Const {
	k := api.Const{Kind: int(r.byte())}
	own := ownParts(k.Kind)
	if own&partInt != 0 {
		k.Int = r.int()
	}
	if own&partCplx != 0 {
		k.Cplx = r.cplx()
	}
	if own&partClass != 0 {
		k.Class = r.name()
	}
	if own&partName != 0 {
		k.Name = r.name()
	}
	return k
}

func readField(r *reader) api.Field {
	return api.Field{Name: r.name(), Type: readType(r), Volatile: r.flag()}
}

func readType(r *reader) api.Type {
	t := api.Type{Kind: int(r.byte())}
	if t.Kind == api.TRef {
		t.Class = r.name()
	}
	return t
}

func readMethod(r *reader) api.Method {
	return api.Method{
		Name:     r.name(),
		Params:   readList(r, api.MaxParams, readType),
		Ret:      readType(r),
		Locals:   r.count(api.MaxLocals),
		Stack:    r.count(api.MaxStack),
		Code:     readCode(r),
		Handlers: readList(r, api.MaxHandlers, readHandler),
	}
}

func readCode(r *reader) []api.Ins {
	// Bytes behind their count are what a text is on the wire; no bound of its own is asked for, as the file's holds.
	b := r.text(api.MaxFile)
	if r.err != api.OK {
		return nil
	}
	list, err := code.Get([]byte(b))
	r.fail(err)
	return list
}

func readHandler(r *reader) api.Handler {
	return api.Handler{
		From:   r.count(api.MaxCode),
		To:     r.count(api.MaxCode),
		Target: r.count(api.MaxCode),
		Class:  r.count(api.MaxPool) + anyClass,
		Depth:  r.count(api.MaxLocks),
	}
}
