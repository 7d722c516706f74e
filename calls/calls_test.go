// Package calls holds each layer's calls against the forms that its chapter lists: where one is missing, or of another form, this does not compile.
package calls

import (
	"sidestick/api"
	"sidestick/chain"
	"sidestick/claim"
	"sidestick/core"
	"sidestick/crc"
	"sidestick/door"
	"sidestick/frame"
	"sidestick/gate"
	"sidestick/limit"
	"sidestick/mac"
	"sidestick/machine"
	"sidestick/msg"
	"sidestick/num"
	"sidestick/offer"
	"sidestick/pack"
	"sidestick/policy"
	"sidestick/queue"
	"sidestick/rule"
	"sidestick/run"
	"sidestick/seal"
	"sidestick/sha"
	"sidestick/stick"
	"sidestick/stream"
	"sidestick/table"
	"sidestick/tick"
	"sidestick/token"
	"sidestick/window"
)

// Layer 1: num.
var (
	_ func(n, most int) int      = num.Sat
	_ func(n, low, high int) int = num.Clamp
	_ func(now, to, by int) int  = num.Toward
	_ func(set, i int) bool      = num.Has
)

// Layer 2: pack.
var (
	_ func(n uint64, size int) ([]byte, api.Errno) = pack.Put
	_ func(b []byte) (uint64, api.Errno)           = pack.Take
	_ func(n int) ([]byte, api.Errno)              = pack.PutInt
	_ func(b []byte) (int, api.Errno)              = pack.TakeInt
)

// Layer 3: crc.
var (
	_ func(sum uint16, c byte) uint16 = crc.Step
	_ func(b []byte) uint16           = crc.Sum
)

// Layer 4: sha.
var (
	_ func() [8]uint32                        = sha.Start
	_ func(b []byte) []byte                   = sha.Pad
	_ func(h [8]uint32, b [64]byte) [8]uint32 = sha.Block
	_ func(b []byte) [32]byte                 = sha.Sum
)

// Layer 5: mac.
var (
	_ func(key, b []byte) [32]byte          = mac.Of
	_ func(key, b []byte) [api.TagSize]byte = mac.Tag
	_ func(a, b []byte) bool                = mac.Same
)

// Layer 6: frame.
var (
	_ func(body []byte) ([]byte, api.Errno) = frame.Put
	_ func(b []byte) api.Found              = frame.Next
)

// Layer 7: stream.
var (
	_ func(b []byte) ([]api.Item, int)        = stream.All
	_ func() *stream.Stream                   = stream.New
	_ func(*stream.Stream, []byte) []api.Item = (*stream.Stream).Take
	_ func(*stream.Stream) int                = (*stream.Stream).Rest
)

// Layer 8: msg.
var (
	_ func(m api.Msg) ([]byte, api.Errno)   = msg.Put
	_ func(b []byte) (api.Msg, api.Errno)   = msg.Take
	_ func(r api.Reply) ([]byte, api.Errno) = msg.PutReply
	_ func(b []byte) (api.Reply, api.Errno) = msg.TakeReply
)

// Layer 9: seal.
var (
	_ func(master []byte, source, n int) [api.TagSize]byte                             = seal.Nonce
	_ func(secret []byte, source, role int, nonce [api.TagSize]byte) [api.TagSize]byte = seal.Proof
	_ func(secret []byte, source, role int, nonce [api.TagSize]byte) [32]byte          = seal.Key
	_ func(key [32]byte, source int, body []byte) []byte                               = seal.Close
	_ func(key [32]byte, source int, b []byte) ([]byte, api.Errno)                     = seal.Open
)

// Layer 10: window.
var (
	_ func(w api.Window, n int) (api.Window, bool) = window.See
)

// Layer 11: tick.
var (
	_ func(most int) api.Timer    = tick.Start
	_ func(t api.Timer) api.Timer = tick.Step
	_ func(t api.Timer) bool      = tick.Due
)

// Layer 12: policy.
var (
	_ func(p api.Policy) api.Errno = policy.Check
	_ func() api.Act               = policy.Fixed
)

// Layer 13: rule.
var (
	_ func(p api.Policy, source int) int             = rule.Rank
	_ func(p api.Policy, a, b int) bool              = rule.Higher
	_ func(p api.Policy, source, role int) bool      = rule.Takes
	_ func(p api.Policy, mode, role, class int) bool = rule.May
	_ func(p api.Policy, from, to int) bool          = rule.Goes
)

// Layer 14: queue.
var (
	_ func(most int) (*queue.Queue, api.Errno) = queue.New
	_ func(*queue.Queue, api.Ask) api.Errno    = (*queue.Queue).Push
	_ func(*queue.Queue) (api.Ask, api.Errno)  = (*queue.Queue).Head
	_ func(*queue.Queue) (api.Ask, api.Errno)  = (*queue.Queue).Pop
	_ func(*queue.Queue, int) bool             = (*queue.Queue).Drop
	_ func(*queue.Queue) []api.Ask             = (*queue.Queue).List
	_ func(*queue.Queue) []api.Ask             = (*queue.Queue).Tick
)

// Layer 15: door.
var (
	_ func(d api.Door, master []byte, source int) (api.Door, api.Errno)                                          = door.Hello
	_ func(d api.Door, secret []byte, source, role int, proof [api.TagSize]byte) (api.Door, [32]byte, api.Errno) = door.Prove
)

// Layer 16: table.
var (
	_ func(p api.Policy) *table.Table                      = table.New
	_ func(*table.Table, int) bool                         = (*table.Table).On
	_ func(*table.Table, int) int                          = (*table.Table).Role
	_ func(*table.Table) int                               = (*table.Table).Many
	_ func(*table.Table, int, int, [32]byte) api.Errno     = (*table.Table).Start
	_ func(*table.Table, int, []byte) (api.Msg, api.Errno) = (*table.Table).Take
	_ func(*table.Table, int) bool                         = (*table.Table).End
	_ func(*table.Table)                                   = (*table.Table).Sample
	_ func(*table.Table) []int                             = (*table.Table).Tick
)

// Layer 17: stick.
var (
	_ func(p api.Policy, run int, s api.Sample) (int, bool) = stick.See
)

// Layer 18: token.
var (
	_ func(p api.Policy) api.Token                     = token.New
	_ func(t api.Token, to int) (api.Token, api.Errno) = token.Grant
	_ func(t api.Token) api.Token                      = token.Seize
)

// Layer 19: offer.
var (
	_ func(p api.Policy, t api.Token, from, to int, there bool) (api.Token, api.Errno) = offer.Make
	_ func(t api.Token, from, epoch int) (api.Token, api.Errno)                        = offer.Accept
	_ func(t api.Token, from int) (api.Token, api.Errno)                               = offer.Deny
	_ func(t api.Token, source int) (api.Token, bool)                                  = offer.Drop
	_ func(t api.Token) (api.Token, int)                                               = offer.Tick
)

// Layer 20: claim.
var (
	_ func(p api.Policy, t api.Token, q *queue.Queue, from int, now bool) (api.Token, int, api.Errno) = claim.Ask
	_ func(t api.Token, q *queue.Queue, from int) (api.Token, api.Errno)                              = claim.Release
	_ func(p api.Policy, t api.Token, q *queue.Queue, there bool) (api.Token, int)                    = claim.Lose
)

// Layer 21: limit.
var (
	_ func(p api.Policy, pt api.Point, class int, x [api.Axes]int, by api.Label) api.Point = limit.Set
	_ func(pt api.Point, by api.Label) api.Point                                           = limit.Hold
	_ func(p api.Policy, pt api.Point) api.Point                                           = limit.Step
)

// Layer 22: gate.
var (
	_ func(p api.Policy, t api.Token, source, role, mode int, m api.Msg) api.Errno = gate.Judge
)

// Layer 23: chain.
var (
	_ func(r api.Record) [10]byte                = chain.Bytes
	_ func(head [32]byte, r api.Record) [32]byte = chain.Next
	_ func(l []api.Record) [32]byte              = chain.Of
)

// Layer 24: core.
var (
	_ func(p api.Policy) (*core.Core, api.Errno) = core.New
	_ func(*core.Core, int, api.Item) api.Told   = (*core.Core).Item
	_ func(*core.Core, api.Sample) api.Told      = (*core.Core).Sample
	_ func(*core.Core, bool) api.Told            = (*core.Core).Health
	_ func(*core.Core) api.Told                  = (*core.Core).Tick
	_ func(*core.Core) api.Told                  = (*core.Core).Now
	_ func(*core.Core) api.Site                  = (*core.Core).Site
)

// Layer 25: machine.
var (
	_ func(p api.Policy) *machine.Machine        = machine.New
	_ func(*machine.Machine) api.Errno           = (*machine.Machine).Error
	_ func(*machine.Machine, api.Event) api.Told = (*machine.Machine).Step
	_ func(*machine.Machine) api.Site            = (*machine.Machine).Site
)

// Layer 26: run.
var (
	_ func(p api.Policy, l []api.Event) ([]api.Told, api.Site, api.Errno) = run.Run
	_ func(l []api.Told) ([]api.Record, [32]byte)                         = run.Trail
)
