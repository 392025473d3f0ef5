package class

import (
	"loom/api"
	"loom/code"
	"loom/wire"
)

// mark and version: what the bytes of every class file begin with.
const (
	mark    = "LOOM"
	version = 1
)

// Encode: the bytes of c, or the error for which there are none.
func Encode(c api.Class) ([]byte, api.Errno) {
	if err := Check(c); err != api.OK {
		return nil, err
	}
	w := wire.New()
	for at := range len(mark) {
		w.Byte(mark[at])
	}
	w.Byte(version)
	w.Text(c.Name)
	w.Text(c.Super)
	writeList(w, c.Pool, writeConst)
	writeList(w, c.Fields, writeField)
	writeList(w, c.Methods, writeMethod)
	b := w.Bytes()
	// The limits that Check asks for leave room below this one: it holds if they are ever raised.
	if len(b) > api.MaxFile {
		return nil, api.ErrBig
	}
	return b, api.OK
}

// writeList writes how many there are, then each one.
func writeList[T any](w *wire.Writer, list []T, write func(w *wire.Writer, one T)) {
	writeCount(w, len(list))
	at := 0
next:
	if at < len(list) {
		write(w, list[at])
		at++
		goto next
	}
}

// writeCount takes it that n isn't below 0: Check has seen to that.
func writeCount(w *wire.Writer, n int) { w.Uint(uint64(n)) }

func writeConst(w *wire.Writer, k api.Const) {
	w.Byte(byte(k.Kind))
	own := ownParts(k.Kind)
	if own&partInt != 0 {
		w.Int(k.Int)
	}
	if own&partCplx != 0 {
		w.Cplx(k.Cplx)
	}
	if own&partClass != 0 {
		w.Text(k.Class)
	}
	if own&partName != 0 {
		w.Text(k.Name)
	}
}

func writeField(w *wire.Writer, f api.Field) {
	w.Text(f.Name)
	writeType(w, f.Type)
	if f.Volatile {
		w.Byte(1)
	} else {
		w.Byte(0)
	}
}

func writeType(w *wire.Writer, t api.Type) {
	w.Byte(byte(t.Kind))
	if t.Kind == api.TRef {
		w.Text(t.Class)
	}
}

func writeMethod(w *wire.Writer, m api.Method) {
	w.Text(m.Name)
	writeList(w, m.Params, writeType)
	writeType(w, m.Ret)
	writeCount(w, m.Locals)
	writeCount(w, m.Stack)
	// No error: Check has asked all that Put asks.
	b, _ := code.Put(m.Code)
	// How many bytes there are, then these, is what a text is on the wire.
	w.Text(string(b))
	writeList(w, m.Handlers, writeHandler)
}

func writeHandler(w *wire.Writer, h api.Handler) {
	writeCount(w, h.From)
	writeCount(w, h.To)
	writeCount(w, h.Target)
	// Nothing on the wire is below 0: so all classes, which is -1, is 0 there.
	writeCount(w, h.Class-anyClass)
	writeCount(w, h.Depth)
}
