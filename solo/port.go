package solo

import (
	"verger/api"
	"verger/frame"
	"verger/msg"
)

// Port is one end of a connection.
type Port struct {
	server *Server
	conn   int
}

// Port is a connection's end, for a client.
func (s *Server) Port(conn int) *Port {
	return &Port{server: s, conn: conn}
}

// Ask sends a request and hears its reply.
func (p *Port) Ask(t api.Msg) (api.Msg, api.Errno) {
	f, e := msg.Encode(t)
	if e != api.OK {
		return api.Msg{}, api.ErrMsgArg
	}
	told, e := p.server.Feed(p.conn, f)
	if e != api.OK {
		return api.Msg{}, e
	}
	return lastOf(told, t.Tag)
}

// lastOf is the last reply of a tag. There may be several: where an unfinished frame ahead takes the first of a request's bytes, the rest may be cut into others.
func lastOf(told []byte, tag uint16) (api.Msg, api.Errno) {
	var last api.Msg
	e := api.ErrClientDown
	for f := range frame.All(told, api.MaxMsize) {
		if r, _ := msg.Decode(f); r.Tag == tag {
			last, e = r, api.OK
		}
	}
	return last, e
}
