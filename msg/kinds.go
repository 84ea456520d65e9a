package msg

import (
	"verger/api"
)

// row says of a kind what it is called, and which fields it uses, in order.
type row struct {
	kind api.Kind
	name string
	uses fieldMakers
}

// fieldMakers make fields: so that those alone are made of which something is asked.
type fieldMakers []func() field[api.Msg]

// kinds are the twenty-seven kinds of messages.
func kinds() []row {
	return []row{
		{api.Tversion, "Tversion", fieldMakers{msize, version}},
		{api.Rversion, "Rversion", fieldMakers{msize, version}},
		{api.Tauth, "Tauth", fieldMakers{afid, uname, aname}},
		{api.Rauth, "Rauth", fieldMakers{qid}},
		{api.Tattach, "Tattach", fieldMakers{fid, afid, uname, aname}},
		{api.Rattach, "Rattach", fieldMakers{qid}},
		{api.Rerror, "Rerror", fieldMakers{ename}},
		{api.Tflush, "Tflush", fieldMakers{oldtag}},
		{api.Rflush, "Rflush", nil},
		{api.Twalk, "Twalk", fieldMakers{fid, newfid, names}},
		{api.Rwalk, "Rwalk", fieldMakers{qids}},
		{api.Topen, "Topen", fieldMakers{fid, mode}},
		{api.Ropen, "Ropen", fieldMakers{qid, iounit}},
		{api.Tcreate, "Tcreate", fieldMakers{fid, name, perm, mode}},
		{api.Rcreate, "Rcreate", fieldMakers{qid, iounit}},
		{api.Tread, "Tread", fieldMakers{fid, offset, count}},
		{api.Rread, "Rread", fieldMakers{data}},
		{api.Twrite, "Twrite", fieldMakers{fid, offset, data}},
		{api.Rwrite, "Rwrite", fieldMakers{count}},
		{api.Tclunk, "Tclunk", fieldMakers{fid}},
		{api.Rclunk, "Rclunk", nil},
		{api.Tremove, "Tremove", fieldMakers{fid}},
		{api.Rremove, "Rremove", nil},
		{api.Tstat, "Tstat", fieldMakers{fid}},
		{api.Rstat, "Rstat", fieldMakers{record}},
		{api.Twstat, "Twstat", fieldMakers{fid, record}},
		{api.Rwstat, "Rwstat", nil},
	}
}

// fieldsOf are the fields that a kind uses, in order, and whether it is a kind.
func fieldsOf(kind api.Kind) ([]field[api.Msg], bool) {
	for _, r := range kinds() {
		if r.kind == kind {
			return made(r.uses), true
		}
	}
	return nil, false
}

func made(l fieldMakers) []field[api.Msg] {
	var fields []field[api.Msg]
	for _, maker := range l {
		fields = append(fields, maker())
	}
	return fields
}

// The fields of messages: the word, how its values stand, and where it lies.

func msize() field[api.Msg] {
	return fieldAt("msize", u32(), func(m *api.Msg) *uint32 { return &m.Msize })
}

func version() field[api.Msg] {
	return fieldAt("version", textShape(), func(m *api.Msg) *string { return &m.Version })
}

func afid() field[api.Msg] {
	return fieldAt("afid", u32(), func(m *api.Msg) *uint32 { return &m.Afid })
}

func uname() field[api.Msg] {
	return fieldAt("uname", textShape(), func(m *api.Msg) *string { return &m.Uname })
}

func aname() field[api.Msg] {
	return fieldAt("aname", textShape(), func(m *api.Msg) *string { return &m.Aname })
}

func ename() field[api.Msg] {
	return fieldAt("ename", textShape(), func(m *api.Msg) *string { return &m.Ename })
}

func oldtag() field[api.Msg] {
	return fieldAt("oldtag", u16(), func(m *api.Msg) *uint16 { return &m.Oldtag })
}

func fid() field[api.Msg] {
	return fieldAt("fid", u32(), func(m *api.Msg) *uint32 { return &m.Fid })
}

func newfid() field[api.Msg] {
	return fieldAt("newfid", u32(), func(m *api.Msg) *uint32 { return &m.Newfid })
}

func names() field[api.Msg] {
	return fieldAt("names", listShape(textShape()), func(m *api.Msg) *[]string { return &m.Names })
}

func qids() field[api.Msg] {
	return fieldAt("qids", listShape(qidShape()), func(m *api.Msg) *[]api.Qid { return &m.Qids })
}

func qid() field[api.Msg] {
	return fieldAt("qid", qidShape(), func(m *api.Msg) *api.Qid { return &m.Qid })
}

func mode() field[api.Msg] {
	return fieldAt("mode", u8(), func(m *api.Msg) *uint8 { return &m.Mode })
}

func iounit() field[api.Msg] {
	return fieldAt("iounit", u32(), func(m *api.Msg) *uint32 { return &m.Iounit })
}

func name() field[api.Msg] {
	return fieldAt("name", textShape(), func(m *api.Msg) *string { return &m.Name })
}

func perm() field[api.Msg] {
	return fieldAt("perm", u32(), func(m *api.Msg) *uint32 { return &m.Perm })
}

func offset() field[api.Msg] {
	return fieldAt("offset", u64(), func(m *api.Msg) *uint64 { return &m.Offset })
}

func count() field[api.Msg] {
	return fieldAt("count", u32(), func(m *api.Msg) *uint32 { return &m.Count })
}

func data() field[api.Msg] {
	return fieldAt("data", dataShape(), func(m *api.Msg) *[]byte { return &m.Data })
}

func record() field[api.Msg] {
	return fieldAt("stat", recordShape(), func(m *api.Msg) *api.Stat { return &m.Stat })
}
