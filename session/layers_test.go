package session

import (
	"go/parser"
	"go/token"
	"path/filepath"
	"slices"
	"strings"
	"testing"
)

// library is what the program may import of Go's library.
const library = " bytes cmp container/heap errors iter maps math math/bits slices sort strconv strings sync sync/atomic unicode unicode/utf8 "

// TestLayers: each layer calls those that the document's map names for it, and nothing else.
func TestLayers(t *testing.T) {
	names := strings.Fields("nat ntt mul div radix integer gcd root rat dyad ball poly chain modp factor sturm isolate alg field split elem format expr bound span decide rounded kernel digits store session")
	calls := [][]int{{}, {}, {1, 2}, {1, 3}, {1, 3, 4}, {1, 3, 4, 5}, {1, 3, 4, 6}, {1, 3, 4}, {1, 5, 6, 7}, {6, 9}, {1, 6, 8, 9, 10}, {6, 7, 9}, {6, 7, 12}, {1, 6, 12}, {6, 8, 12, 13, 14}, {6, 10, 12, 13}, {6, 9, 10, 12, 13, 16}, {6, 9, 12, 15, 16, 17}, {6, 12, 13, 16, 18}, {1, 6, 9}, {6, 9, 20}, {1, 3, 6, 9}, {6, 9, 12}, {1, 23}, {6, 8, 9, 17, 21, 23, 24}, {1, 6, 9, 23, 24, 25}, {1, 6, 9, 22, 24, 25, 26}, {6, 9, 12, 14, 20, 22, 23}, {1, 3, 6, 9, 16, 22, 23, 26}, {}, {18, 22, 23, 26, 27, 29, 30}}
	for i, name := range names {
		files, _ := filepath.Glob("../" + name + "/*.go")
		if len(files) == 0 {
			t.Fatal("no files", name)
		}
		for _, file := range files {
			if strings.HasSuffix(file, "_test.go") {
				continue
			}
			f, err := parser.ParseFile(token.NewFileSet(), file, nil, parser.ImportsOnly)
			if err != nil {
				t.Fatal(err)
			}
			for _, x := range f.Imports {
				path := strings.Trim(x.Path.Value, `"`)
				layer, own := strings.CutPrefix(path, "ziggurat/")
				may := own && (layer == "api" || slices.Contains(calls[i], 1+slices.Index(names, layer)))
				if !may && !strings.Contains(library, " "+path+" ") {
					t.Error(file, "imports", path)
				}
			}
		}
	}
}
