// Package faces holds what every package of the program has to keep to: the calls that the chapters list, the limits, the language.
package faces

import (
	"iter"

	"verger/api"
	"verger/auth"
	"verger/bulk"
	"verger/client"
	"verger/dump"
	"verger/fids"
	"verger/frame"
	"verger/hist"
	"verger/lab"
	"verger/locks"
	"verger/msg"
	"verger/names"
	"verger/nodes"
	"verger/relay"
	"verger/rows"
	"verger/rules"
	"verger/seq"
	"verger/solo"
	"verger/space"
	"verger/srv"
	"verger/stat"
	"verger/tags"
	"verger/users"
	"verger/wire"
)

// The calls that the chapters list, layer by layer: that these are their signatures the compiler tells.

var (
	_ func(s string) bool                       = wire.Good
	_ func(s string, most int) string           = wire.Cut
	_ func(limit int) (*wire.Writer, api.Errno) = wire.NewWriter
	_ func(w *wire.Writer, n uint8)             = (*wire.Writer).U8
	_ func(w *wire.Writer, n uint16)            = (*wire.Writer).U16
	_ func(w *wire.Writer, n uint32)            = (*wire.Writer).U32
	_ func(w *wire.Writer, n uint64)            = (*wire.Writer).U64
	_ func(w *wire.Writer, b []byte)            = (*wire.Writer).Raw
	_ func(w *wire.Writer, s string)            = (*wire.Writer).Text
	_ func(w *wire.Writer) int                  = (*wire.Writer).Open
	_ func(w *wire.Writer, place int)           = (*wire.Writer).Shut
	_ func(w *wire.Writer) int                  = (*wire.Writer).Len
	_ func(w *wire.Writer) ([]byte, api.Errno)  = (*wire.Writer).Done
	_ func(b []byte) *wire.Reader               = wire.NewReader
	_ func(r *wire.Reader) uint8                = (*wire.Reader).U8
	_ func(r *wire.Reader) uint16               = (*wire.Reader).U16
	_ func(r *wire.Reader) uint32               = (*wire.Reader).U32
	_ func(r *wire.Reader) uint64               = (*wire.Reader).U64
	_ func(r *wire.Reader, n int) []byte        = (*wire.Reader).Raw
	_ func(r *wire.Reader) string               = (*wire.Reader).Text
	_ func(r *wire.Reader) *wire.Reader         = (*wire.Reader).Part
	_ func(r *wire.Reader)                      = (*wire.Reader).End
	_ func(r *wire.Reader, e api.Errno)         = (*wire.Reader).Fail
	_ func(r *wire.Reader) int                  = (*wire.Reader).Left
	_ func(r *wire.Reader) int                  = (*wire.Reader).At
	_ func(r *wire.Reader) (api.Errno, int)     = (*wire.Reader).Err
)

var (
	_ func(s api.Stat) int                        = stat.Size
	_ func(s api.Stat) ([]byte, api.Errno)        = stat.Encode
	_ func(b []byte) (api.Stat, api.Errno)        = stat.Decode
	_ func(b []byte) ([]api.Stat, api.Errno)      = stat.Records
	_ func(b []byte) iter.Seq2[int, api.Stat]     = stat.Each
	_ func(most int, l ...api.Stat) ([]byte, int) = stat.Pack
	_ func(w *wire.Writer, s api.Stat)            = stat.Put
	_ func(r *wire.Reader) api.Stat               = stat.Take
	_ func(w *wire.Writer, q api.Qid)             = stat.PutQid
	_ func(r *wire.Reader) api.Qid                = stat.TakeQid
	_ func() api.Stat                             = stat.Keep
	_ func(want, have api.Stat) api.Fields        = stat.Touched
	_ func(want, have api.Stat) api.Stat          = stat.Over
	_ func(mode uint32) string                    = stat.Mode
	_ func(text string) (uint32, api.Errno)       = stat.ParseMode
)

var (
	_ func(m api.Msg) ([]byte, api.Errno)         = msg.Encode
	_ func(frame []byte) (api.Msg, api.Errno)     = msg.Decode
	_ func(m api.Msg) api.Msg                     = msg.Clean
	_ func(m api.Msg) int                         = msg.Size
	_ func(kind api.Kind) (api.Kind, bool)        = msg.Answer
	_ func(kind api.Kind) string                  = msg.Name
	_ func(name string) (api.Kind, bool)          = msg.Kind
	_ func(m api.Msg) string                      = msg.Text
	_ func(line string) (api.Msg, int, api.Errno) = msg.Parse
)

var (
	_ func(b []byte, msize uint32) iter.Seq[[]byte] = frame.All
	_ func(msize uint32) *frame.Cutter              = frame.New
	_ func(c *frame.Cutter, b []byte) int           = (*frame.Cutter).Feed
	_ func(c *frame.Cutter) ([]byte, bool)          = (*frame.Cutter).Next
	_ func(c *frame.Cutter) bool                    = (*frame.Cutter).Whole
	_ func(c *frame.Cutter) int                     = (*frame.Cutter).Want
	_ func(c *frame.Cutter, msize uint32) api.Errno = (*frame.Cutter).Limit
	_ func(c *frame.Cutter) (api.Errno, int)        = (*frame.Cutter).Dead
	_ func(c *frame.Cutter) int                     = (*frame.Cutter).Taken
)

var (
	_ func(name string) api.Errno                  = names.Check
	_ func(path string) (api.Path, api.Errno)      = names.Split
	_ func(p api.Path) string                      = names.Join
	_ func(path string) (string, api.Errno)        = names.Clean
	_ func(top, path string) (string, bool)        = names.Under
	_ func(pattern, name string) (bool, api.Errno) = names.Match
	_ func(l ...string) []string                   = names.Sorted
	_ func(word string) string                     = names.Quote
	_ func(line string) ([]string, api.Errno)      = names.Words
)

var (
	_ func(text string) (*users.Table, api.Errno, int)            = users.Parse
	_ func(l []api.Account) (string, api.Errno)                   = users.Print
	_ func(t *users.Table) string                                 = (*users.Table).Text
	_ func(t *users.Table, name string) bool                      = (*users.Table).Known
	_ func(t *users.Table, user, group string) bool               = (*users.Table).Member
	_ func(t *users.Table, user, group string) bool               = (*users.Table).Leads
	_ func(t *users.Table, user string) string                    = (*users.Table).Key
	_ func(t *users.Table, user string) []string                  = (*users.Table).Groups
	_ func(t *users.Table) iter.Seq[api.Account]                  = (*users.Table).Accounts
	_ func(t *users.Table, line string) (*users.Table, api.Errno) = (*users.Table).Edit
)

var (
	_ func(key string, l ...uint64) uint64                                          = auth.Sum
	_ func(seed uint64, conn, nth int) uint64                                       = auth.Ours
	_ func(u *users.Table, user, tree string, ours uint64) (api.Talk, api.Errno)    = auth.Begin
	_ func(u *users.Table, t api.Talk, count int) (api.Talk, []byte, api.Errno)     = auth.Read
	_ func(u *users.Table, t api.Talk, b []byte) (api.Talk, int, api.Errno)         = auth.Write
	_ func(t api.Talk, user, tree string) api.Errno                                 = auth.Allows
	_ func(key, user, tree string, hello []byte, theirs uint64) ([]byte, api.Errno) = auth.Answer
	_ func(key, user, tree string, hello []byte, theirs uint64, proof []byte) bool  = auth.Confirms
)

var (
	_ func(c api.Config) (*nodes.Store, api.Errno)                  = nodes.New
	_ func(s *nodes.Store, o api.Op) (uint64, api.Errno)            = (*nodes.Store).Do
	_ func(s *nodes.Store, path uint64) (api.Node, bool)            = (*nodes.Store).Node
	_ func(s *nodes.Store, path uint64, name string) (uint64, bool) = (*nodes.Store).Child
	_ func(s *nodes.Store, path, last uint64) (uint64, bool)        = (*nodes.Store).After
	_ func(s *nodes.Store, path, offset uint64, n int) []byte       = (*nodes.Store).Read
	_ func(s *nodes.Store) uint64                                   = (*nodes.Store).Next
	_ func(s *nodes.Store) int                                      = (*nodes.Store).Count
	_ func(s *nodes.Store) iter.Seq[api.Node]                       = (*nodes.Store).All
	_ func(s *nodes.Store) *nodes.Store                             = (*nodes.Store).Clone
)

var (
	_ func(t *users.Table, user string, n api.Node) uint8                                                        = rules.Rights
	_ func(mode uint8) (uint8, api.Errno)                                                                        = rules.Wants
	_ func(perm uint32) api.Errno                                                                                = rules.Perm
	_ func(t *users.Table, user string, dir api.Node) api.Errno                                                  = rules.Step
	_ func(t *users.Table, user string, f api.Facts, mode uint8) api.Errno                                       = rules.Open
	_ func(t *users.Table, user string, f api.Facts, name string, perm uint32, mode uint8) (api.Node, api.Errno) = rules.Create
	_ func(t *users.Table, user string, f api.Facts) api.Errno                                                   = rules.Remove
	_ func(t *users.Table, user string, f api.Facts) bool                                                        = rules.Closes
	_ func(t *users.Table, user string, f api.Facts, want api.Stat) (api.Node, api.Errno)                        = rules.Wstat
	_ func(n api.Node) api.Stat                                                                                  = rules.Record
)

var (
	_ func(most int) (*fids.Table, api.Errno)                                         = fids.New
	_ func(t *fids.Table, fid uint32) (api.Fid, api.Errno)                            = (*fids.Table).Get
	_ func(t *fids.Table, fid uint32, f api.Fid) api.Errno                            = (*fids.Table).Add
	_ func(t *fids.Table, fid uint32, f api.Fid) api.Errno                            = (*fids.Table).Set
	_ func(t *fids.Table, fid uint32) (api.Fid, api.Errno)                            = (*fids.Table).Take
	_ func(t *fids.Table, fid, newfid uint32) api.Errno                               = (*fids.Table).Room
	_ func(t *fids.Table, fid, newfid uint32, node uint64) api.Errno                  = (*fids.Table).Walk
	_ func(t *fids.Table, fid uint32, node uint64, mode uint8, remove bool) api.Errno = (*fids.Table).Open
	_ func(t *fids.Table, fid uint32, last, bytes uint64) api.Errno                   = (*fids.Table).Told
	_ func(t *fids.Table) iter.Seq2[uint32, api.Fid]                                  = (*fids.Table).All
	_ func(t *fids.Table) []api.FidAt                                                 = (*fids.Table).Clear
	_ func(t *fids.Table) int                                                         = (*fids.Table).Count
	_ func(t *fids.Table, node uint64) int                                            = (*fids.Table).Opens
	_ func(t *fids.Table) *fids.Table                                                 = (*fids.Table).Clone
)

var (
	_ func(c api.Config) (*seq.World, api.Errno)         = seq.New
	_ func(w *seq.World, seconds uint32)                 = (*seq.World).Tick
	_ func(w *seq.World) uint32                          = (*seq.World).Now
	_ func(w *seq.World, conn int) uint32                = (*seq.World).Msize
	_ func(w *seq.World, conn int, t api.Msg) []api.Need = (*seq.World).Foot
	_ func(w *seq.World, conn int, t api.Msg) api.Plan   = (*seq.World).Decide
	_ func(w *seq.World, conn int, p api.Piece) []byte   = (*seq.World).Apply
	_ func(w *seq.World, conn int, t api.Msg) api.Msg    = (*seq.World).Do
	_ func(w *seq.World, conn int) []api.Msg             = (*seq.World).Ends
	_ func(w *seq.World, conn int)                       = (*seq.World).Leave
	_ func(w *seq.World, conn int) []api.FidAt           = (*seq.World).Fids
	_ func(w *seq.World) []api.Node                      = (*seq.World).Nodes
	_ func(w *seq.World, path uint64) []byte             = (*seq.World).Content
	_ func(w *seq.World) *seq.World                      = (*seq.World).Clone
)

var (
	_ func(c api.Config) (*solo.Server, api.Errno)                 = solo.New
	_ func(s *solo.Server) (int, api.Errno)                        = (*solo.Server).Open
	_ func(s *solo.Server, conn int, b []byte) ([]byte, api.Errno) = (*solo.Server).Feed
	_ func(s *solo.Server, conn int) api.Errno                     = (*solo.Server).Close
	_ func(s *solo.Server, seconds uint32)                         = (*solo.Server).Tick
	_ func(s *solo.Server) []api.Node                              = (*solo.Server).Nodes
	_ func(s *solo.Server, path uint64) []byte                     = (*solo.Server).Content
	_ func(s *solo.Server, conn int) []api.FidAt                   = (*solo.Server).Fids
	_ func(s *solo.Server, conn int) *solo.Port                    = (*solo.Server).Port
	_ func(p *solo.Port, t api.Msg) (api.Msg, api.Errno)           = (*solo.Port).Ask
)

var (
	_ func(a, b api.Lock) int                                      = locks.Compare
	_ func() *locks.Table                                          = locks.New
	_ func(t *locks.Table, who int, n api.Need) (bool, api.Errno)  = (*locks.Table).Ask
	_ func(t *locks.Table, who int, l api.Lock) ([]int, api.Errno) = (*locks.Table).Free
	_ func(t *locks.Table, who int) []int                          = (*locks.Table).Leave
	_ func(t *locks.Table, who int) []api.Need                     = (*locks.Table).Held
	_ func(t *locks.Table, who int) (api.Need, bool)               = (*locks.Table).Waits
	_ func(t *locks.Table, l api.Lock) []int                       = (*locks.Table).Queue
	_ func(t *locks.Table, l api.Lock) []int                       = (*locks.Table).Holders
	_ func(t *locks.Table) []int                                   = (*locks.Table).Stuck
	_ func(t *locks.Table) bool                                    = (*locks.Table).Idle
)

var (
	_ func(most int) (*tags.Table, api.Errno)                       = tags.New
	_ func(t *tags.Table, tag uint16, id int) api.Errno             = (*tags.Table).Begin
	_ func(t *tags.Table, tag, old uint16, id int) (int, api.Errno) = (*tags.Table).Flush
	_ func(t *tags.Table, id int) bool                              = (*tags.Table).Decide
	_ func(t *tags.Table, id int, m api.Msg) api.Errno              = (*tags.Table).Reply
	_ func(t *tags.Table, id int, m api.Msg)                        = (*tags.Table).Say
	_ func(t *tags.Table) (api.Msg, int, bool)                      = (*tags.Table).Next
	_ func(t *tags.Table) []int                                     = (*tags.Table).Reset
	_ func(t *tags.Table) []api.TagRow                              = (*tags.Table).Rows
	_ func(t *tags.Table) []api.Msg                                 = (*tags.Table).Waiting
)

var (
	_ func(id, conn int, t api.Msg) *rows.Row                               = rows.New
	_ func(nodes int) int                                                   = rows.Most
	_ func(r *rows.Row, w *seq.World, l *locks.Table) (api.Step, api.Errno) = (*rows.Row).Step
	_ func(r *rows.Row) bool                                                = (*rows.Row).Cancel
	_ func(r *rows.Row) api.RowState                                        = (*rows.Row).State
	_ func(r *rows.Row) (api.Msg, bool)                                     = (*rows.Row).Reply
)

var (
	_ func(c api.Config) (*srv.Server, api.Errno)       = srv.New
	_ func(s *srv.Server) (int, api.Errno)              = (*srv.Server).Open
	_ func(s *srv.Server, conn int, b []byte) api.Errno = (*srv.Server).Feed
	_ func(s *srv.Server, conn int) api.Errno           = (*srv.Server).Close
	_ func(s *srv.Server, seconds uint32)               = (*srv.Server).Tick
	_ func(s *srv.Server) []api.Actor                   = (*srv.Server).Actors
	_ func(s *srv.Server, n uint32) (api.Event, bool)   = (*srv.Server).Pick
	_ func(s *srv.Server, most int) int                 = (*srv.Server).Settle
	_ func(s *srv.Server, conn, most int) []byte        = (*srv.Server).Take
	_ func(s *srv.Server, conn int) []api.TagRow        = (*srv.Server).Tags
	_ func(s *srv.Server, conn int) []api.FidAt         = (*srv.Server).Fids
	_ func(s *srv.Server) []api.Node                    = (*srv.Server).Nodes
	_ func(s *srv.Server, path uint64) []byte           = (*srv.Server).Content
	_ func(s *srv.Server) []api.Call                    = (*srv.Server).History
	_ func(s *srv.Server, conn int) *srv.Port           = (*srv.Server).Port
	_ func(p *srv.Port, t api.Msg) (api.Msg, api.Errno) = (*srv.Port).Ask
)

var (
	_ func(c api.Config, l []api.Call) (api.Errno, int)             = hist.Check
	_ func(c api.Config, l []api.Call, most int) ([]int, api.Errno) = hist.Find
	_ func(l []api.Call) []int                                      = hist.Order
	_ func(l []api.Call) string                                     = hist.Text
)

var (
	_ func(l api.Link, msize uint32, who api.Login) (*client.Client, error) = client.Dial
	_ func(c *client.Client, path string) (api.Stat, error)                 = (*client.Client).Stat
	_ func(c *client.Client, path string, want api.Stat) error              = (*client.Client).Wstat
	_ func(c *client.Client, path string) ([]api.Stat, error)               = (*client.Client).List
	_ func(c *client.Client, path string) iter.Seq2[string, api.Stat]       = (*client.Client).Walk
	_ func(c *client.Client, path string) ([]byte, error)                   = (*client.Client).Read
	_ func(c *client.Client, path string, b []byte) error                   = (*client.Client).Write
	_ func(c *client.Client, path string, b []byte) error                   = (*client.Client).Append
	_ func(c *client.Client, path string, perm uint32) error                = (*client.Client).Create
	_ func(c *client.Client, path string) error                             = (*client.Client).Remove
	_ func(c *client.Client, path string) error                             = (*client.Client).RemoveAll
	_ func(c *client.Client, path, name string) error                       = (*client.Client).Rename
	_ func(c *client.Client, path string, perm uint32) error                = (*client.Client).Chmod
	_ func(c *client.Client, path string, mode uint8) (*client.File, error) = (*client.Client).Open
	_ func(c *client.Client) int                                            = (*client.Client).Fids
	_ func(c *client.Client) error                                          = (*client.Client).Close
	_ func(f *client.File, at uint64, n int) ([]byte, error)                = (*client.File).Read
	_ func(f *client.File, at uint64, b []byte) (int, error)                = (*client.File).Write
	_ func(f *client.File) (api.Stat, error)                                = (*client.File).Stat
	_ func(f *client.File) error                                            = (*client.File).Close
)

var (
	_ func(root space.Tree) *space.Space                                   = space.New
	_ func(s *space.Space, t space.Tree, at string, how api.How) api.Errno = (*space.Space).Mount
	_ func(s *space.Space, old, at string, how api.How) api.Errno          = (*space.Space).Bind
	_ func(s *space.Space, old, at string) api.Errno                       = (*space.Space).Unmount
	_ func(s *space.Space, path string) ([]api.Spot, api.Errno)            = (*space.Space).Resolve
	_ func(s *space.Space, path string) (api.Stat, error)                  = (*space.Space).Stat
	_ func(s *space.Space, path string) ([]api.Stat, error)                = (*space.Space).List
	_ func(s *space.Space, path string) ([]byte, error)                    = (*space.Space).Read
	_ func(s *space.Space, path string, b []byte) error                    = (*space.Space).Write
	_ func(s *space.Space, path string, perm uint32) error                 = (*space.Space).Create
	_ func(s *space.Space, path string) error                              = (*space.Space).Remove
	_ func(s *space.Space) *space.Space                                    = (*space.Space).Fork
	_ func(s *space.Space) string                                          = (*space.Space).Text
)

var (
	_ func(clients int, msize uint32, fids, tags int) (*relay.Relay, api.Errno) = relay.New
	_ func(r *relay.Relay, client int, t api.Msg) ([]api.Out, api.Errno)        = (*relay.Relay).In
	_ func(r *relay.Relay, m api.Msg) ([]api.Out, api.Errno)                    = (*relay.Relay).Back
	_ func(r *relay.Relay, client int) ([]api.Out, api.Errno)                   = (*relay.Relay).Leave
	_ func(r *relay.Relay, client int) int                                      = (*relay.Relay).Fids
	_ func(r *relay.Relay) int                                                  = (*relay.Relay).Waiting
	_ func(r *relay.Relay, client int, l api.Link) *relay.Port                  = (*relay.Relay).Port
	_ func(p *relay.Port, t api.Msg) (api.Msg, api.Errno)                       = (*relay.Port).Ask
)

var (
	_ func(l ...api.Entry) ([]byte, api.Errno)                   = dump.Encode
	_ func(b []byte) ([]api.Entry, api.Errno)                    = dump.Decode
	_ func(a, b []byte) ([]api.Change, api.Errno)                = dump.Diff
	_ func(c *client.Client, path string) ([]byte, error)        = dump.Dump
	_ func(c *client.Client, path string, b []byte) (int, error) = dump.Load
	_ func(c *client.Client, path string, b []byte) (int, error) = dump.Apply
)

var (
	_ func(s *nodes.Store, path uint64, workers int) (uint64, api.Errno)                            = bulk.Digest
	_ func(s *nodes.Store, path uint64, workers int) (files, dirs int, bytes uint64, err api.Errno) = bulk.Total
	_ func(s *nodes.Store, path uint64, pattern string, workers int) ([]uint64, api.Errno)          = bulk.Find
	_ func(s *nodes.Store, lists ...[]api.Op) ([][]api.Errno, api.Errno)                            = bulk.Storm
)

var (
	_ func(script string) (string, int, api.Errno) = lab.Run
	_ func(scripts ...string) []string             = lab.Many
)

// treeCalls are what a tree of a name space is asked.
type treeCalls interface {
	Stat(path string) (api.Stat, error)
	List(path string) ([]api.Stat, error)
	Read(path string) ([]byte, error)
	Write(path string, b []byte) error
	Create(path string, perm uint32) error
	Remove(path string) error
}

// Both ways: Tree asks for these calls, and for no others.
var (
	_ func(treeCalls) space.Tree = func(t treeCalls) space.Tree { return t }
	_ func(space.Tree) treeCalls = func(t space.Tree) treeCalls { return t }
)

// Whoever can be asked is a Link; a client and a name space are trees.
var (
	_ api.Link   = (*solo.Port)(nil)
	_ api.Link   = (*srv.Port)(nil)
	_ api.Link   = (*relay.Port)(nil)
	_ space.Tree = (*client.Client)(nil)
	_ space.Tree = (*space.Space)(nil)
)
