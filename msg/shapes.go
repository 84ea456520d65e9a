package msg

import (
	"slices"
	"strconv"
	"strings"

	"verger/api"
	"verger/stat"
	"verger/wire"
)

// shape is how values of one type stand in a frame and in a line.
type shape[V any] struct {
	may   func(v V) bool
	write func(w *wire.Writer, v V)
	read  func(r *wire.Reader) V
	tell  func(v V) string
	scan  func(l *reading) V
	clone func(v V) V // sharing no memory with v
}

// always is the may of what can be anything.
func always[V any](V) bool { return true }

// same is the clone of what has no list in it.
func same[V any](v V) V { return v }

type unsigned interface {
	uint8 | uint16 | uint32 | uint64
}

func u8() shape[uint8] { return number((*wire.Writer).U8, (*wire.Reader).U8) }

func u16() shape[uint16] { return number((*wire.Writer).U16, (*wire.Reader).U16) }

func u32() shape[uint32] { return number((*wire.Writer).U32, (*wire.Reader).U32) }

func u64() shape[uint64] { return number((*wire.Writer).U64, (*wire.Reader).U64) }

func number[N unsigned](write func(*wire.Writer, N), read func(*wire.Reader) N) shape[N] {
	return shape[N]{
		may:   always[N],
		write: write,
		read:  read,
		tell:  func(n N) string { return strconv.FormatUint(uint64(n), 10) },
		scan:  func(l *reading) N { return N(l.number(uint64(^N(0)))) },
		clone: same[N],
	}
}

func textShape() shape[string] {
	return shape[string]{
		may:   wire.Good,
		write: (*wire.Writer).Text,
		read:  (*wire.Reader).Text,
		tell:  quoted,
		scan:  (*reading).text,
		clone: same[string],
	}
}

func dataShape() shape[[]byte] {
	return shape[[]byte]{
		may: always[[]byte],
		write: func(w *wire.Writer, b []byte) {
			w.U32(uint32(len(b)))
			w.Raw(b)
		},
		read:  func(r *wire.Reader) []byte { return r.Raw(int(r.U32())) },
		tell:  hexOf,
		scan:  (*reading).data,
		clone: func(b []byte) []byte { return slices.Clone(b) },
	}
}

func qidShape() shape[api.Qid] {
	return shape[api.Qid]{
		may:   always[api.Qid],
		write: stat.PutQid,
		read:  stat.TakeQid,
		tell: func(q api.Qid) string {
			return u8().tell(q.Kind) + "." + u32().tell(q.Vers) + "." + u64().tell(q.Path)
		},
		scan: func(l *reading) api.Qid {
			var q api.Qid
			q.Kind = u8().scan(l)
			l.word(".")
			q.Vers = u32().scan(l)
			l.word(".")
			q.Path = u64().scan(l)
			return q
		},
		clone: same[api.Qid],
	}
}

func recordShape() shape[api.Stat] {
	return shape[api.Stat]{
		may: func(s api.Stat) bool { return mayBe(recordFields(), &s) },
		write: func(w *wire.Writer, s api.Stat) {
			place := w.Open()
			stat.Put(w, s)
			w.Shut(place)
		},
		read: func(r *wire.Reader) api.Stat {
			s, e := stat.Decode(r.Raw(int(r.U16())))
			r.Fail(e)
			return s
		},
		tell: func(s api.Stat) string { return tellAll("{", recordFields(), &s) + "}" },
		scan: func(l *reading) api.Stat {
			var s api.Stat
			scanAll(l, "{", recordFields(), &s)
			l.word("}")
			return s
		},
		clone: same[api.Stat],
	}
}

// recordFields are a record's fields, as they stand in a line.
func recordFields() []field[api.Stat] {
	return []field[api.Stat]{
		fieldAt("type", u16(), func(s *api.Stat) *uint16 { return &s.Type }),
		fieldAt("dev", u32(), func(s *api.Stat) *uint32 { return &s.Dev }),
		fieldAt("qid", qidShape(), func(s *api.Stat) *api.Qid { return &s.Qid }),
		fieldAt("mode", u32(), func(s *api.Stat) *uint32 { return &s.Mode }),
		fieldAt("atime", u32(), func(s *api.Stat) *uint32 { return &s.Atime }),
		fieldAt("mtime", u32(), func(s *api.Stat) *uint32 { return &s.Mtime }),
		fieldAt("length", u64(), func(s *api.Stat) *uint64 { return &s.Length }),
		fieldAt("name", textShape(), func(s *api.Stat) *string { return &s.Name }),
		fieldAt("uid", textShape(), func(s *api.Stat) *string { return &s.Uid }),
		fieldAt("gid", textShape(), func(s *api.Stat) *string { return &s.Gid }),
		fieldAt("muid", textShape(), func(s *api.Stat) *string { return &s.Muid }),
	}
}

// listShape is the shape of lists of up to MaxElems values of a shape.
func listShape[V any](one shape[V]) shape[[]V] {
	return shape[[]V]{
		may: func(l []V) bool {
			return len(l) <= api.MaxElems && !slices.ContainsFunc(l, func(v V) bool { return !one.may(v) })
		},
		write: func(w *wire.Writer, l []V) {
			w.U16(uint16(len(l)))
			for _, v := range l {
				one.write(w, v)
			}
		},
		read:  func(r *wire.Reader) []V { return readList(r, one) },
		tell:  func(l []V) string { return tellList(l, one) },
		scan:  func(l *reading) []V { return scanList(l, one) },
		clone: func(l []V) []V { return slices.Clone(l) },
	}
}

func readList[V any](r *wire.Reader, one shape[V]) []V {
	n := int(r.U16())
	if n > api.MaxElems {
		r.Fail(api.ErrMsgBody)
		return nil
	}
	var l []V
	for range n {
		l = append(l, one.read(r))
	}
	return l
}

func tellList[V any](l []V, one shape[V]) string {
	var texts []string
	for _, v := range l {
		texts = append(texts, one.tell(v))
	}
	return "[" + strings.Join(texts, " ") + "]"
}

func scanList[V any](l *reading, one shape[V]) []V {
	var list []V
	l.word("[")
	for !l.sees("]") {
		if len(list) == api.MaxElems {
			l.fail()
		}
		if len(list) > 0 {
			l.word(" ")
		}
		list = append(list, one.scan(l))
	}
	l.word("]")
	return list
}
