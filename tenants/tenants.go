// Package tenants: a server that draws for several clients: see DOC.md.
package tenants

import (
	"tenants/api"
	"tenants/raster"
	"tenants/shader"
)

// Server is the contexts and their pages.
type Server struct{}

// Cover tells whether a triangle covers a pixel (P3).
func Cover(t api.Triangle, x int, y int) (bool, api.Errno) {
	return raster.Cover(t, x, y)
}

// Verify tells whether bytes are a program (P4).
func Verify(code string) (api.Errno, int) {
	return shader.Verify(code)
}

// Shade runs a program for one pixel (P5).
func Shade(code string, p api.Pixel, texture string) (int, int, api.Errno) {
	return shader.Shade(code, p, texture)
}

// New makes a server (P6).
func New() *Server { return nil }

// Open opens a context (P6).
func (s *Server) Open() (int, api.Errno) { return 0, api.OK }

// Close closes a context (P6).
func (s *Server) Close(c int) api.Errno { return api.OK }

// Free tells how many pages are free (P6).
func (s *Server) Free() int { return 0 }

// Send hands bytes of commands over to a context (P7).
func (s *Server) Send(c int, b string) api.Errno { return api.OK }

// Run lets a context work (P8).
func (s *Server) Run(c int, fuel int) (int, api.Errno) { return 0, api.OK }

// Replies takes the replies that wait (P9).
func (s *Server) Replies(c int) (string, api.Errno) { return "", api.OK }
