package rules

import (
	"hibernacle/agent"
	"hibernacle/asm"
	"hibernacle/cache"
	"hibernacle/catalog"
	"hibernacle/chunk"
	"hibernacle/cipher"
	"hibernacle/collect"
	"hibernacle/console"
	"hibernacle/cpu"
	"hibernacle/day"
	"hibernacle/delta"
	"hibernacle/dir"
	"hibernacle/drive"
	"hibernacle/exe"
	"hibernacle/extent"
	"hibernacle/field"
	"hibernacle/freeze"
	"hibernacle/fs"
	"hibernacle/fsck"
	"hibernacle/geom"
	"hibernacle/hash"
	"hibernacle/hold"
	"hibernacle/image"
	"hibernacle/inode"
	"hibernacle/isa"
	"hibernacle/keys"
	"hibernacle/lz"
	"hibernacle/machine"
	"hibernacle/manifest"
	"hibernacle/mmu"
	"hibernacle/num"
	"hibernacle/pack"
	"hibernacle/parity"
	"hibernacle/policy"
	"hibernacle/proc"
	"hibernacle/progs"
	"hibernacle/quota"
	"hibernacle/record"
	"hibernacle/rehearse"
	"hibernacle/resize"
	"hibernacle/restore"
	"hibernacle/roll"
	"hibernacle/root"
	"hibernacle/sched"
	"hibernacle/scrub"
	"hibernacle/seal"
	"hibernacle/server"
	"hibernacle/session"
	"hibernacle/share"
	"hibernacle/shelf"
	"hibernacle/single"
	"hibernacle/spread"
	"hibernacle/state"
	"hibernacle/sys"
	"hibernacle/vault"
	"hibernacle/wal"
	"hibernacle/wire"
	"hibernacle/xattr"
)

// funcs is all calls of the layers.
var funcs = map[string]any{
	"agent.Forget":    agent.Forget,
	"agent.New":       agent.New,
	"agent.Pump":      agent.Pump,
	"agent.Send":      agent.Send,
	"agent.Start":     agent.Start,
	"agent.Take":      agent.Take,
	"agent.Went":      agent.Went,
	"asm.List":        asm.List,
	"asm.Make":        asm.Make,
	"cache.Keep":      cache.Keep,
	"cache.Sync":      cache.Sync,
	"cache.View":      cache.View,
	"catalog.Bytes":   catalog.Bytes,
	"catalog.Diff":    catalog.Diff,
	"catalog.Find":    catalog.Find,
	"catalog.Of":      catalog.Of,
	"catalog.On":      catalog.On,
	"catalog.Read":    catalog.Read,
	"chunk.Cut":       chunk.Cut,
	"chunk.Epoch":     chunk.Epoch,
	"chunk.Name":      chunk.Name,
	"chunk.Open":      chunk.Open,
	"chunk.Seal":      chunk.Seal,
	"cipher.Block":    cipher.Block,
	"cipher.Xor":      cipher.Xor,
	"collect.Dead":    collect.Dead,
	"collect.Live":    collect.Live,
	"collect.Step":    collect.Step,
	"console.Run":     console.Run,
	"cpu.Step":        cpu.Step,
	"day.Day":         day.Day,
	"day.Month":       day.Month,
	"day.Of":          day.Of,
	"day.Text":        day.Text,
	"day.Week":        day.Week,
	"day.Year":        day.Year,
	"delta.Apply":     delta.Apply,
	"delta.Bytes":     delta.Bytes,
	"delta.Join":      delta.Join,
	"delta.Of":        delta.Of,
	"delta.Read":      delta.Read,
	"dir.Add":         dir.Add,
	"dir.Drop":        dir.Drop,
	"dir.Find":        dir.Find,
	"dir.List":        dir.List,
	"dir.May":         dir.May,
	"drive.Check":     drive.Check,
	"drive.Crash":     drive.Crash,
	"drive.Flush":     drive.Flush,
	"drive.Get":       drive.Get,
	"drive.New":       drive.New,
	"drive.Put":       drive.Put,
	"exe.Bytes":       exe.Bytes,
	"exe.Check":       exe.Check,
	"exe.Lay":         exe.Lay,
	"exe.Of":          exe.Of,
	"extent.Blocks":   extent.Blocks,
	"extent.Count":    extent.Count,
	"extent.Cut":      extent.Cut,
	"extent.Read":     extent.Read,
	"extent.Write":    extent.Write,
	"field.At":        field.At,
	"field.Eval":      field.Eval,
	"field.Inv":       field.Inv,
	"field.Mul":       field.Mul,
	"freeze.Begin":    freeze.Begin,
	"freeze.Image":    freeze.Image,
	"freeze.Left":     freeze.Left,
	"freeze.Pump":     freeze.Pump,
	"freeze.Went":     freeze.Went,
	"fs.Create":       fs.Create,
	"fs.Cut":          fs.Cut,
	"fs.Find":         fs.Find,
	"fs.Link":         fs.Link,
	"fs.Make":         fs.Make,
	"fs.Mkdir":        fs.Mkdir,
	"fs.Read":         fs.Read,
	"fs.Remove":       fs.Remove,
	"fs.Rename":       fs.Rename,
	"fs.SetAttr":      fs.SetAttr,
	"fs.Walk":         fs.Walk,
	"fs.Write":        fs.Write,
	"fsck.Look":       fsck.Look,
	"fsck.Mend":       fsck.Mend,
	"geom.Format":     geom.Format,
	"geom.Give":       geom.Give,
	"geom.Of":         geom.Of,
	"geom.Plan":       geom.Plan,
	"geom.Room":       geom.Room,
	"geom.Take":       geom.Take,
	"geom.Used":       geom.Used,
	"hash.Hex":        hash.Hex,
	"hash.Keyed":      hash.Keyed,
	"hash.Of":         hash.Of,
	"hash.Sum":        hash.Sum,
	"hold.Gone":       hold.Gone,
	"hold.Held":       hold.Held,
	"hold.Set":        hold.Set,
	"hold.Trim":       hold.Trim,
	"image.Bytes":     image.Bytes,
	"image.Machine":   image.Machine,
	"image.Of":        image.Of,
	"image.Read":      image.Read,
	"image.Sum":       image.Sum,
	"inode.All":       inode.All,
	"inode.Get":       inode.Get,
	"inode.New":       inode.New,
	"inode.Put":       inode.Put,
	"isa.Dec":         isa.Dec,
	"isa.Enc":         isa.Enc,
	"isa.Op":          isa.Op,
	"isa.Text":        isa.Text,
	"keys.Box":        keys.Box,
	"keys.Bytes":      keys.Bytes,
	"keys.Check":      keys.Check,
	"keys.Id":         keys.Id,
	"keys.Make":       keys.Make,
	"keys.Of":         keys.Of,
	"keys.Open":       keys.Open,
	"keys.Rotate":     keys.Rotate,
	"lz.Pack":         lz.Pack,
	"lz.Unpack":       lz.Unpack,
	"machine.Crash":   machine.Crash,
	"machine.Feed":    machine.Feed,
	"machine.New":     machine.New,
	"machine.Run":     machine.Run,
	"machine.Same":    machine.Same,
	"machine.Step":    machine.Step,
	"manifest.Bytes":  manifest.Bytes,
	"manifest.Check":  manifest.Check,
	"manifest.Names":  manifest.Names,
	"manifest.Of":     manifest.Of,
	"mmu.Copy":        mmu.Copy,
	"mmu.Find":        mmu.Find,
	"mmu.Lay":         mmu.Lay,
	"mmu.Load":        mmu.Load,
	"mmu.Store":       mmu.Store,
	"num.Dec":         num.Dec,
	"num.Get":         num.Get,
	"num.Int":         num.Int,
	"num.Put":         num.Put,
	"num.Row":         num.Row,
	"num.Texts":       num.Texts,
	"pack.Make":       pack.Make,
	"pack.Name":       pack.Name,
	"pack.Of":         pack.Of,
	"pack.Take":       pack.Take,
	"parity.Cut":      parity.Cut,
	"parity.Join":     parity.Join,
	"parity.Rows":     parity.Rows,
	"policy.Check":    policy.Check,
	"policy.Keep":     policy.Keep,
	"policy.Of":       policy.Of,
	"policy.Text":     policy.Text,
	"proc.Die":        proc.Die,
	"proc.Find":       proc.Find,
	"proc.Grow":       proc.Grow,
	"proc.Opened":     proc.Opened,
	"proc.Reap":       proc.Reap,
	"proc.Spawn":      proc.Spawn,
	"progs.Disk":      progs.Disk,
	"progs.Exe":       progs.Exe,
	"progs.Names":     progs.Names,
	"progs.Source":    progs.Source,
	"quota.Check":     quota.Check,
	"quota.Limit":     quota.Limit,
	"quota.Set":       quota.Set,
	"quota.Used":      quota.Used,
	"record.Bytes":    record.Bytes,
	"record.Of":       record.Of,
	"record.Replay":   record.Replay,
	"record.Run":      record.Run,
	"rehearse.Beside": rehearse.Beside,
	"rehearse.Run":    rehearse.Run,
	"rehearse.Text":   rehearse.Text,
	"resize.Copy":     resize.Copy,
	"resize.Fits":     resize.Fits,
	"resize.Machine":  resize.Machine,
	"resize.Needs":    resize.Needs,
	"restore.Image":   restore.Image,
	"restore.Machine": restore.Machine,
	"restore.Missing": restore.Missing,
	"restore.Snap":    restore.Snap,
	"roll.Check":      roll.Check,
	"roll.Cut":        roll.Cut,
	"roll.Sum":        roll.Sum,
	"root.Bytes":      root.Bytes,
	"root.Check":      root.Check,
	"root.Load":       root.Load,
	"root.Of":         root.Of,
	"root.Save":       root.Save,
	"sched.Could":     sched.Could,
	"sched.Pick":      sched.Pick,
	"sched.Wake":      sched.Wake,
	"scrub.All":       scrub.All,
	"scrub.Look":      scrub.Look,
	"scrub.Mend":      scrub.Mend,
	"seal.Nonce":      seal.Nonce,
	"seal.Open":       seal.Open,
	"seal.Seal":       seal.Seal,
	"server.Do":       server.Do,
	"session.Answer":  session.Answer,
	"session.Next":    session.Next,
	"session.Reply":   session.Reply,
	"session.Send":    session.Send,
	"session.Take":    session.Take,
	"share.Join":      share.Join,
	"share.Split":     share.Split,
	"shelf.Check":     shelf.Check,
	"shelf.Drop":      shelf.Drop,
	"shelf.Get":       shelf.Get,
	"shelf.Names":     shelf.Names,
	"shelf.Put":       shelf.Put,
	"single.File":     single.File,
	"single.Proc":     single.Proc,
	"spread.Drop":     spread.Drop,
	"spread.Names":    spread.Names,
	"spread.Post":     spread.Post,
	"spread.Read":     spread.Read,
	"spread.Vote":     spread.Vote,
	"spread.Write":    spread.Write,
	"state.Check":     state.Check,
	"state.Ends":      state.Ends,
	"state.Free":      state.Free,
	"state.Open":      state.Open,
	"state.Pipe":      state.Pipe,
	"state.Put":       state.Put,
	"state.Sweep":     state.Sweep,
	"state.Take":      state.Take,
	"sys.Do":          sys.Do,
	"vault.Admit":     vault.Admit,
	"vault.Commit":    vault.Commit,
	"vault.Flush":     vault.Flush,
	"vault.Get":       vault.Get,
	"vault.Has":       vault.Has,
	"vault.New":       vault.New,
	"vault.Open":      vault.Open,
	"vault.Put":       vault.Put,
	"vault.Rotate":    vault.Rotate,
	"vault.Tick":      vault.Tick,
	"wal.Commit":      wal.Commit,
	"wal.Format":      wal.Format,
	"wal.Home":        wal.Home,
	"wal.Recover":     wal.Recover,
	"wire.Check":      wire.Check,
	"wire.Get":        wire.Get,
	"wire.Put":        wire.Put,
	"xattr.Drop":      xattr.Drop,
	"xattr.Get":       xattr.Get,
	"xattr.List":      xattr.List,
	"xattr.Set":       xattr.Set,
}
