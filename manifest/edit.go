package manifest

import (
	"bytes"
	"slices"

	"convoy/api"
	"convoy/frame"
	"convoy/taker"
)

// Encode: an edit's payload.
func Encode(e api.Edit) ([]byte, api.Errno) {
	if hasNegative(e) {
		return nil, api.ErrManifest
	}
	b := appendNumber(nil, len(e.Add))
	for _, t := range e.Add {
		b = appendNumber(b, t.Number)
		b = appendNumber(b, t.Level)
		b = append(b, frame.Text(t.First)...)
		b = append(b, frame.Text(t.Last)...)
	}
	b = appendNumber(b, len(e.Drop))
	for _, n := range e.Drop {
		b = appendNumber(b, n)
	}
	b = appendNumber(b, e.Next)
	b = appendNumber(b, e.Log)
	b = appendNumber(b, e.Seq)
	if len(b) > api.MaxPayload {
		return nil, api.ErrLong
	}
	return b, api.OK
}

func hasNegative(e api.Edit) bool {
	return min(e.Next, e.Log, e.Seq) < 0 ||
		slices.ContainsFunc(e.Add, func(t api.Table) bool { return min(t.Number, t.Level) < 0 }) ||
		slices.ContainsFunc(e.Drop, func(n int) bool { return n < 0 })
}

func appendNumber(b []byte, n int) []byte {
	return append(b, frame.Uint(uint64(n))...)
}

// Decode: the edit whose payload this is.
func Decode(b []byte) (api.Edit, api.Errno) {
	// Ahead of reading: the edit of very many bytes would take up very much memory.
	if len(b) > api.MaxPayload {
		return api.Edit{}, api.ErrManifest
	}
	e := editOf(b)
	// Whatever was read from bytes that are no edit's, Encode makes other bytes of it.
	if payload, code := Encode(e); code != api.OK || !bytes.Equal(payload, b) {
		return api.Edit{}, api.ErrManifest
	}
	return e, api.OK
}

// editOf: the edit of a payload; of other bytes, what can be read as such.
func editOf(b []byte) api.Edit {
	var e api.Edit
	t := taker.Taker{Rest: b}
	// A table or a number has a byte at least: so no count, whatever it is, makes a loop longer than b.
	for range min(t.Number(), len(b)) {
		e.Add = append(e.Add, api.Table{Number: t.Number(), Level: t.Number(), First: t.Text(), Last: t.Text()})
	}
	for range min(t.Number(), len(b)) {
		e.Drop = append(e.Drop, t.Number())
	}
	e.Next, e.Log, e.Seq = t.Number(), t.Number(), t.Number()
	return e
}

// sealed: the frame of an edit.
func sealed(e api.Edit) ([]byte, api.Errno) {
	payload, code := Encode(e)
	if code != api.OK {
		return nil, code
	}
	return frame.Seal(payload)
}

// snapshot: the frames of the edits that make a version of the first one. None of them is too long.
func snapshot(v api.Version) []byte {
	b, _ := sealed(api.Edit{Next: v.Next, Log: v.Log, Seq: v.Seq})
	for _, t := range v.Tables {
		added, _ := sealed(api.Edit{Add: []api.Table{t}})
		b = append(b, added...)
	}
	return b
}
