package box

import (
	"bytes"
	"slices"

	"quaestor/api"
	"quaestor/num"
)

// Check answers OK if b may be: its tenant is a name, and its body is as long as something sealed; else ErrArg.
func Check(b api.Box) api.Errno {
	if !Name(b.Tenant) || len(b.Body) < tagSize || len(b.Body) > api.MaxPlain+tagSize {
		return api.ErrArg
	}
	return api.OK
}

// Put answers to and behind it the form of b; to alone, if b may not be.
func Put(to []byte, b api.Box) []byte {
	if Check(b) != api.OK {
		return bytes.Clone(to)
	}
	tenant := num.PutShort(nil, uint64(len(b.Tenant)))
	epoch := num.Put(nil, uint64(b.Epoch), epochWidth)
	body := num.PutShort(nil, uint64(len(b.Body)))
	return slices.Concat(to, tenant, []byte(b.Tenant), epoch, b.Nonce[:], body, b.Body)
}

// Get answers the box whose form from begins with, and how many bytes that form has.
func Get(from []byte) (b api.Box, used int, e api.Errno) {
	tenant, rest, e := told(from)
	if e != api.OK {
		return api.Box{}, 0, e
	}
	if len(rest) < epochWidth+nonceSize {
		return api.Box{}, 0, api.ErrShort
	}
	epoch, _ := num.Get(rest, epochWidth) // it is all there
	var nonce api.Nonce
	copy(nonce[:], rest[epochWidth:])
	body, rest, e := told(rest[epochWidth+nonceSize:])
	if e != api.OK {
		return api.Box{}, 0, e
	}
	if len(tenant) > api.MaxName { // ahead of its copy, which would be as long
		return api.Box{}, 0, api.ErrForm
	}
	b = api.Box{Tenant: string(tenant), Epoch: uint32(epoch), Nonce: nonce, Body: body}
	if Check(b) != api.OK {
		return api.Box{}, 0, api.ErrForm
	}
	b.Body = bytes.Clone(body)
	return b, len(from) - len(rest), api.OK
}

// Same tells whether all fields of both are the same.
func Same(a, b api.Box) bool {
	return a.Tenant == b.Tenant && a.Epoch == b.Epoch && a.Nonce == b.Nonce && bytes.Equal(a.Body, b.Body)
}

// told answers the bytes whose number from tells in short form at its front, and what is behind them.
func told(from []byte) (b, rest []byte, e api.Errno) {
	n, used, e := num.GetShort(from)
	if e != api.OK {
		return nil, nil, e
	}
	rest = from[used:]
	if n > uint64(len(rest)) {
		return nil, nil, api.ErrShort
	}
	return rest[:n], rest[n:], api.OK
}
