package stat

import (
	"math"

	"verger/api"
)

// Keep is the record that touches nothing.
func Keep() api.Stat {
	return api.Stat{
		Type:   math.MaxUint16,
		Dev:    math.MaxUint32,
		Qid:    api.Qid{Kind: math.MaxUint8, Vers: math.MaxUint32, Path: math.MaxUint64},
		Mode:   math.MaxUint32,
		Atime:  math.MaxUint32,
		Mtime:  math.MaxUint32,
		Length: math.MaxUint64,
	}
}

// field is one of a record's fields: whether it is the same in two records, and how it goes over from one to another.
type field struct {
	bit  api.Fields
	same func(a, b *api.Stat) bool
	move func(to, from *api.Stat)
}

// fieldAt is the field that lies in a record where in says.
func fieldAt[V comparable](bit api.Fields, in func(*api.Stat) *V) field {
	return field{
		bit:  bit,
		same: func(a, b *api.Stat) bool { return *in(a) == *in(b) },
		move: func(to, from *api.Stat) { *in(to) = *in(from) },
	}
}

// fields are all fields of a record.
func fields() []field {
	return []field{
		fieldAt(api.FieldType, func(s *api.Stat) *uint16 { return &s.Type }),
		fieldAt(api.FieldDev, func(s *api.Stat) *uint32 { return &s.Dev }),
		fieldAt(api.FieldQidKind, func(s *api.Stat) *uint8 { return &s.Qid.Kind }),
		fieldAt(api.FieldQidVers, func(s *api.Stat) *uint32 { return &s.Qid.Vers }),
		fieldAt(api.FieldQidPath, func(s *api.Stat) *uint64 { return &s.Qid.Path }),
		fieldAt(api.FieldMode, func(s *api.Stat) *uint32 { return &s.Mode }),
		fieldAt(api.FieldAtime, func(s *api.Stat) *uint32 { return &s.Atime }),
		fieldAt(api.FieldMtime, func(s *api.Stat) *uint32 { return &s.Mtime }),
		fieldAt(api.FieldLength, func(s *api.Stat) *uint64 { return &s.Length }),
		fieldAt(api.FieldName, func(s *api.Stat) *string { return &s.Name }),
		fieldAt(api.FieldUid, func(s *api.Stat) *string { return &s.Uid }),
		fieldAt(api.FieldGid, func(s *api.Stat) *string { return &s.Gid }),
		fieldAt(api.FieldMuid, func(s *api.Stat) *string { return &s.Muid }),
	}
}

// Touched says which fields of have are touched by want.
func Touched(want, have api.Stat) api.Fields {
	var touched api.Fields
	keep := Keep()
	for _, f := range fields() {
		if !f.same(&want, &keep) && !f.same(&want, &have) {
			touched |= f.bit
		}
	}
	return touched
}

// Over is have, with what want touches.
func Over(want, have api.Stat) api.Stat {
	touched := Touched(want, have)
	over := have
	for _, f := range fields() {
		if touched&f.bit != 0 {
			f.move(&over, &want)
		}
	}
	return over
}
