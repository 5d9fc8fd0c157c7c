package rules

import (
	"shapesearch/apart"
	"shapesearch/bound"
	"shapesearch/bulk"
	"shapesearch/certificate"
	"shapesearch/chain"
	"shapesearch/channels"
	"shapesearch/clean"
	"shapesearch/codec"
	"shapesearch/contrast"
	"shapesearch/device"
	"shapesearch/discord"
	"shapesearch/edit"
	"shapesearch/envelope"
	"shapesearch/euclid"
	"shapesearch/growing"
	"shapesearch/heap"
	"shapesearch/index"
	"shapesearch/join"
	"shapesearch/measure"
	"shapesearch/motif"
	"shapesearch/nearest"
	"shapesearch/normal"
	"shapesearch/packet"
	"shapesearch/pieces"
	"shapesearch/profile"
	"shapesearch/progressive"
	"shapesearch/ratio"
	"shapesearch/reading"
	"shapesearch/regime"
	"shapesearch/resample"
	"shapesearch/root"
	"shapesearch/run"
	"shapesearch/script"
	"shapesearch/segment"
	"shapesearch/series"
	"shapesearch/sketch"
	"shapesearch/store"
	"shapesearch/tree"
	"shapesearch/unit"
	"shapesearch/variable"
	"shapesearch/warp"
	"shapesearch/watch"
	"shapesearch/window"
	"shapesearch/within"
	"shapesearch/word"
)

// functions returns all functions of the layers by their names.
func functions() map[string]any {
	return map[string]any{
		"apart.Choose":             apart.Choose,
		"apart.Search":             apart.Search,
		"bound.List":               bound.List,
		"bound.Lower":              bound.Lower,
		"bound.Region":             bound.Region,
		"bound.Cascade":            bound.Cascade,
		"bound.Holds":              bound.Holds,
		"bound.HoldsRegion":        bound.HoldsRegion,
		"bulk.Load":                bulk.Load,
		"bulk.Add":                 bulk.Add,
		"bulk.Fill":                bulk.Fill,
		"certificate.Nearest":      certificate.Nearest,
		"certificate.Within":       certificate.Within,
		"certificate.CheckNearest": certificate.CheckNearest,
		"certificate.CheckWithin":  certificate.CheckWithin,
		"chain.Links":              chain.Links,
		"chain.From":               chain.From,
		"chain.Longest":            chain.Longest,
		"channels.Euclid":          channels.Euclid,
		"channels.Together":        channels.Together,
		"channels.Apart":           channels.Apart,
		"channels.Greatest":        channels.Greatest,
		"clean.Clean":              clean.Clean,
		"clean.Merge":              clean.Merge,
		"clean.Repeated":           clean.Repeated,
		"codec.PutInt":             codec.PutInt,
		"codec.Int":                codec.Int,
		"codec.Width":              codec.Width,
		"codec.Pack":               codec.Pack,
		"codec.Unpack":             codec.Unpack,
		"codec.Sum":                codec.Sum,
		"contrast.Of":              contrast.Of,
		"contrast.Sharper":         contrast.Sharper,
		"contrast.Top":             contrast.Top,
		"contrast.Distinct":        contrast.Distinct,
		"device.New":               device.New,
		"device.Valid":             device.Valid,
		"device.Read":              device.Read,
		"device.Write":             device.Write,
		"device.Flush":             device.Flush,
		"device.Crash":             device.Crash,
		"discord.Of":               discord.Of,
		"discord.Scores":           discord.Scores,
		"discord.Above":            discord.Above,
		"edit.Distance":            edit.Distance,
		"edit.Align":               edit.Align,
		"edit.Cost":                edit.Cost,
		"envelope.Of":              envelope.Of,
		"envelope.Keogh":           envelope.Keogh,
		"envelope.Improved":        envelope.Improved,
		"envelope.Pieces":          envelope.Pieces,
		"euclid.Distance":          euclid.Distance,
		"euclid.Within":            euclid.Within,
		"euclid.Shifted":           euclid.Shifted,
		"euclid.Profile":           euclid.Profile,
		"growing.New":              growing.New,
		"growing.Add":              growing.Add,
		"growing.Forget":           growing.Forget,
		"heap.Encode":              heap.Encode,
		"heap.Decode":              heap.Decode,
		"heap.Area":                heap.Area,
		"heap.Load":                heap.Load,
		"heap.Plan":                heap.Plan,
		"heap.Apply":               heap.Apply,
		"heap.Commit":              heap.Commit,
		"index.Encode":             index.Encode,
		"index.Decode":             index.Decode,
		"index.Save":               index.Save,
		"index.Open":               index.Open,
		"index.Grow":               index.Grow,
		"join.Nearest":             join.Nearest,
		"join.Within":              join.Within,
		"join.Closest":             join.Closest,
		"join.Earlier":             join.Earlier,
		"measure.Check":            measure.Check,
		"measure.Distance":         measure.Distance,
		"measure.Within":           measure.Within,
		"measure.Format":           measure.Format,
		"measure.Parse":            measure.Parse,
		"motif.Pairs":              motif.Pairs,
		"motif.Best":               motif.Best,
		"motif.Members":            motif.Members,
		"nearest.Fits":             nearest.Fits,
		"nearest.Bounds":           nearest.Bounds,
		"nearest.Search":           nearest.Search,
		"normal.Product":           normal.Product,
		"normal.Gap":               normal.Gap,
		"normal.Centred":           normal.Centred,
		"normal.Profile":           normal.Profile,
		"packet.Encode":            packet.Encode,
		"packet.Decode":            packet.Decode,
		"pieces.Starts":            pieces.Starts,
		"pieces.Sums":              pieces.Sums,
		"pieces.Centred":           pieces.Centred,
		"pieces.Lower":             pieces.Lower,
		"pieces.Shifted":           pieces.Shifted,
		"profile.Windows":          profile.Windows,
		"profile.Of":               profile.Of,
		"profile.Valid":            profile.Valid,
		"profile.Nearer":           profile.Nearer,
		"profile.Join":             profile.Join,
		"progressive.Begin":        progressive.Begin,
		"progressive.Valid":        progressive.Valid,
		"progressive.Step":         progressive.Step,
		"progressive.Done":         progressive.Done,
		"progressive.Remaining":    progressive.Remaining,
		"progressive.Final":        progressive.Final,
		"progressive.Run":          progressive.Run,
		"ratio.Valid":              ratio.Valid,
		"ratio.Make":               ratio.Make,
		"ratio.Cmp":                ratio.Cmp,
		"ratio.Less":               ratio.Less,
		"ratio.Least":              ratio.Least,
		"ratio.Add":                ratio.Add,
		"ratio.Floor":              ratio.Floor,
		"ratio.Ceil":               ratio.Ceil,
		"ratio.Format":             ratio.Format,
		"ratio.Parse":              ratio.Parse,
		"reading.Parse":            reading.Parse,
		"reading.Format":           reading.Format,
		"regime.Arcs":              regime.Arcs,
		"regime.Corrected":         regime.Corrected,
		"regime.Cuts":              regime.Cuts,
		"resample.Valid":           resample.Valid,
		"resample.At":              resample.At,
		"resample.Apply":           resample.Apply,
		"root.Floor":               root.Floor,
		"root.Ceil":                root.Ceil,
		"root.Quotient":            root.Quotient,
		"run.Of":                   run.Of,
		"run.Valid":                run.Valid,
		"run.Less":                 run.Less,
		"run.Sorted":               run.Sorted,
		"run.Merge":                run.Merge,
		"run.Sort":                 run.Sort,
		"script.Parse":             script.Parse,
		"script.Run":               script.Run,
		"script.Hits":              script.Hits,
		"segment.Encode":           segment.Encode,
		"segment.Decode":           segment.Decode,
		"segment.Summary":          segment.Summary,
		"segment.Store":            segment.Store,
		"segment.Load":             segment.Load,
		"series.Valid":             series.Valid,
		"series.Runs":              series.Runs,
		"series.Starts":            series.Starts,
		"series.Window":            series.Window,
		"series.Cut":               series.Cut,
		"series.Join":              series.Join,
		"sketch.Of":                sketch.Of,
		"sketch.Upper":             sketch.Upper,
		"sketch.Gap":               sketch.Gap,
		"sketch.Region":            sketch.Region,
		"store.Check":              store.Check,
		"store.Places":             store.Places,
		"store.Window":             store.Window,
		"store.Query":              store.Query,
		"store.Before":             store.Before,
		"store.Hits":               store.Hits,
		"store.Nearest":            store.Nearest,
		"store.Within":             store.Within,
		"tree.New":                 tree.New,
		"tree.Of":                  tree.Of,
		"tree.Check":               tree.Check,
		"tree.Entries":             tree.Entries,
		"tree.Leaf":                tree.Leaf,
		"tree.Insert":              tree.Insert,
		"tree.Remove":              tree.Remove,
		"tree.Depth":               tree.Depth,
		"unit.Parse":               unit.Parse,
		"unit.Format":              unit.Format,
		"unit.Valid":               unit.Valid,
		"unit.Convert":             unit.Convert,
		"variable.Fits":            variable.Fits,
		"variable.Search":          variable.Search,
		"variable.Scaled":          variable.Scaled,
		"warp.Distance":            warp.Distance,
		"warp.Within":              warp.Within,
		"warp.Path":                warp.Path,
		"warp.Cost":                warp.Cost,
		"watch.Check":              watch.Check,
		"watch.New":                watch.New,
		"watch.Valid":              watch.Valid,
		"watch.Feed":               watch.Feed,
		"watch.Finish":             watch.Finish,
		"window.Of":                window.Of,
		"window.Stats":             window.Stats,
		"window.Variance":          window.Variance,
		"window.Slide":             window.Slide,
		"within.Search":            within.Search,
		"within.Count":             within.Count,
		"word.Check":               word.Check,
		"word.Coordinates":         word.Coordinates,
		"word.Of":                  word.Of,
		"word.Root":                word.Root,
		"word.Valid":               word.Valid,
		"word.Belongs":             word.Belongs,
		"word.Split":               word.Split,
		"word.Region":              word.Region,
		"word.Cmp":                 word.Cmp,
	}
}
