// Package tenants: a server that draws for several clients: see DOC.md.
package tenants

import (
	"tenants/api"
	"tenants/client"
	"tenants/raster"
	"tenants/shader"
)

// Server is the contexts and their pages. Each context has its pages for itself:
// their quotas together are no more than there are pages, so none goes without.
type Server struct {
	contexts [api.Contexts]*client.Context // nil: not open
}

// Cover tells whether a triangle covers a pixel (P3).
func Cover(t api.Triangle, x int, y int) (bool, api.Errno) {
	return raster.Cover(t, x, y)
}

// Verify tells whether bytes are a program (P4).
func Verify(code string) (api.Errno, int) {
	return shader.Verify(code)
}

// Shade runs a program for one pixel (P5).
func Shade(code string, p api.Pixel, texture string) (int, int, api.Errno) {
	return shader.Shade(code, p, texture)
}

// New makes a server (P6).
func New() *Server {
	return &Server{}
}

// Open opens a context (P6).
func (s *Server) Open() (int, api.Errno) {
	if s == nil {
		return 0, api.ErrServer
	}
	for c := 0; c < api.Contexts; c++ {
		if s.contexts[c] == nil {
			s.contexts[c] = &client.Context{}
			return c, api.OK
		}
	}
	return 0, api.ErrFull
}

// Close closes a context (P6).
func (s *Server) Close(c int) api.Errno {
	_, fault := s.find(c)
	if fault != api.OK {
		return fault
	}
	s.contexts[c] = nil
	return api.OK
}

// Free tells how many pages are free (P6).
func (s *Server) Free() int {
	if s == nil {
		return 0
	}
	free := api.Pages
	for _, context := range s.contexts {
		if context != nil {
			free -= context.Pages()
		}
	}
	return free
}

// Send hands bytes of commands over to a context (P7).
func (s *Server) Send(c int, b string) api.Errno {
	context, fault := s.find(c)
	if fault != api.OK {
		return fault
	}
	return context.Send(b)
}

// Run lets a context work (P8).
func (s *Server) Run(c int, fuel int) (int, api.Errno) {
	context, fault := s.find(c)
	if fault != api.OK {
		return 0, fault
	}
	return context.Run(fuel)
}

// Replies takes the replies that wait (P9).
func (s *Server) Replies(c int) (string, api.Errno) {
	context, fault := s.find(c)
	if fault != api.OK {
		return "", fault
	}
	return context.Replies(), api.OK
}

// find answers an open context.
func (s *Server) find(c int) (*client.Context, api.Errno) {
	if s == nil {
		return nil, api.ErrServer
	}
	if c < 0 || c >= api.Contexts || s.contexts[c] == nil {
		return nil, api.ErrContext
	}
	return s.contexts[c], api.OK
}
