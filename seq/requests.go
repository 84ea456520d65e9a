package seq

import "verger/api"

// request is a kind of request: what is decided of it, and which locks it needs.
type request struct {
	kind   api.Kind
	decide func(*deed)
	named  func(*foot)       // the locks that it names itself; nil: it needs none at all
	nodes  func(*foot, spot) // those of nodes, if its Fid stands at one; nil: none
}

// requests are all kinds of requests.
func requests() []request {
	return []request{
		{api.Tversion, (*deed).version, nil, nil},
		{api.Tauth, (*deed).auth, (*foot).ofAuth, nil},
		{api.Tattach, (*deed).attach, (*foot).ofAttach, nil},
		{api.Tflush, (*deed).flush, nil, nil},
		{api.Twalk, (*deed).walk, (*foot).ofWalk, (*foot).atWalk},
		{api.Topen, (*deed).open, (*foot).fidAlone, (*foot).atOpen},
		{api.Tcreate, (*deed).create, (*foot).fidAlone, (*foot).nodeAlone},
		{api.Tread, (*deed).read, (*foot).fidAlone, (*foot).atRead},
		{api.Twrite, (*deed).write, (*foot).fidAlone, (*foot).nodeAlone},
		{api.Tclunk, (*deed).clunk, (*foot).fidAlone, (*foot).atClunk},
		{api.Tremove, (*deed).remove, (*foot).fidAlone, (*foot).atRemove},
		{api.Tstat, (*deed).stat, (*foot).fidTogether, (*foot).nodeTogether},
		{api.Twstat, (*deed).wstat, (*foot).fidTogether, (*foot).atWstat},
	}
}

// requestOf is the row of a kind.
func requestOf(kind api.Kind) request {
	for _, r := range requests() {
		if r.kind == kind {
			return r
		}
	}
	return request{}
}
