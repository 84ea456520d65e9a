package solo

import (
	"verger/api"
	"verger/msg"
)

// answer does what a frame asks; the reply's frame.
func (s *Server) answer(conn int, f []byte) []byte {
	t, e := msg.Decode(f) // beside an error, too, the kind and the tag are told
	if e = fault(t, e); e != api.OK {
		return written(api.Msg{Kind: api.Rerror, Tag: t.Tag, Ename: e.Error()})
	}
	// That it needs a session, and that nothing is under way which a flush could take back, the world knows itself.
	return written(s.world.Do(conn, t))
}

// written is a reply's frame: there is none that can't be written, and none with more bytes than a session's msize allows.
func written(r api.Msg) []byte {
	f, _ := msg.Encode(r)
	return f
}

// fault is the error by which a frame is no good request, whatever there is; how it was decoded is said.
func fault(t api.Msg, decoded api.Errno) api.Errno {
	_, isRequest := msg.Answer(t.Kind)
	switch {
	case !isRequest: // a reply whose body is wrong, too, is refused by its kind
		return api.ErrMsgKind
	case decoded != api.OK:
		return decoded
	case (t.Kind == api.Tversion) != (t.Tag == api.NoTag):
		return api.ErrTag
	}
	return api.OK
}
