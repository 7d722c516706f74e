package msg

import (
	"sidestick/api"
	"sidestick/pack"
)

const (
	seqSize   = 4
	epochSize = 2
	axisSize  = 2
	smallSize = 1 // of all others
	mostSmall = 255
)

// field is a part of a body. Its functions hold on to its place in a message or a reply, so that who joins and splits bodies need not know what kind of place that is: put tells the bytes of what stands there, and take lays there what bytes say, and tells whether that may be.
type field struct {
	size int
	put  func() []byte
	take func(b []byte) bool
}

func join(fields []field) []byte {
	var all []byte
	for _, f := range fields {
		all = append(all, f.put()...)
	}
	return all
}

// split asks for all the bytes: one too many has no field that it could be of.
func split(b []byte, fields []field) bool {
	for _, f := range fields {
		if len(b) < f.size || !f.take(b[:f.size]) {
			return false
		}
		b = b[f.size:]
	}
	return len(fields) > 0 && len(b) == 0
}

func kind(at *int) field       { return number(at, smallSize, 0, mostSmall) }
func seq(at *int) field        { return number(at, seqSize, 0, api.MaxSeq) }
func epoch(at *int) field      { return number(at, epochSize, 0, api.MaxEpoch) }
func role(at *int) field       { return number(at, smallSize, 0, api.Roles-1) }
func source(at *int) field     { return number(at, smallSize, 0, api.Sources-1) }
func mode(at *int) field       { return number(at, smallSize, 0, api.Modes-1) }
func class(at *int) field      { return number(at, smallSize, api.ClRate, api.ClPlace) }
func code(at *api.Errno) field { return number(at, smallSize, 0, mostSmall) }

// number passes over what pack refuses: a number without room has no bytes, and so does not come back.
func number[N ~int](at *N, size int, least, most N) field {
	return field{
		size: size,
		put: func() []byte {
			b, _ := pack.Put(uint64(*at), size)
			return b
		},
		take: func(b []byte) bool {
			n, _ := pack.Take(b)
			*at = N(n)
			return *at >= least && *at <= most
		},
	}
}

// flag has one byte for each of its two values, so that no two bodies are one message.
func flag(at *bool) field {
	return field{
		size: smallSize,
		put: func() []byte {
			if *at {
				return []byte{1}
			}
			return []byte{0}
		},
		take: func(b []byte) bool {
			*at = b[0] == 1
			return b[0] <= 1
		},
	}
}

func axes(at *[api.Axes]int) []field {
	var fields []field
	for i := range at {
		fields = append(fields, axis(&at[i]))
	}
	return fields
}

// axis passes over what pack refuses, as number does.
func axis(at *int) field {
	return field{
		size: axisSize,
		put: func() []byte {
			b, _ := pack.PutInt(*at)
			return b
		},
		take: func(b []byte) bool {
			n, e := pack.TakeInt(b)
			*at = n
			return e == api.OK
		},
	}
}

func nonce(at *[api.TagSize]byte) field {
	return field{
		size: api.TagSize,
		put:  func() []byte { return at[:] },
		take: func(b []byte) bool { return copy(at[:], b) == api.TagSize },
	}
}
