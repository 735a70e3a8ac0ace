/- Short names of theorems of the library. -/
import Derived.Test.YtkdlocloepbmcaaGreatProg
import Derived.Test.YtkdlocloepbmcaaGreatAL
import Derived.Below
import Derived.Deep.MidRow
import Derived.Deep.RegionHeld
import Derived.Laws.Append
import Derived.Laws.AppendOwn
import Derived.Laws.Bits64
import Derived.Laws.Entries
import Derived.Laws.Rows
import Derived.Laws.Sem
import Derived.Laws.Tables
import Derived.LoopN
import Derived.MapKept
import Derived.OrdersHeld
import Derived.Tactics
set_option linter.unusedVariables false
namespace Go.Proofs.YtkdlocloepbmcaaGreat
abbrev Ac:=@Go.RowKit.Below.refl
abbrev Aj:=@Go.cell_of_row
abbrev Ak:=@Go.heap_alloc_new
abbrev Al:=@Go.block_lt_of_cell
abbrev Am:=@Go.all_oneCell_toArray
abbrev Aq:=@Go.bodyPost_ret
abbrev Av:=@Go.World.cell?_of_block
abbrev Ax:=@Go.RowKit.Below.heap_alloc
abbrev A4:=@Go.Result.andThen_ok
abbrev A5:=@Go.wpList_store_row
abbrev AA:=@Go.heap_setCell_other
abbrev AB:=@Go.AllReadyH.nil
abbrev AC:=@Go.setRow_heap
abbrev AD:=@Go.wpAnyH_ready
abbrev AN:=@Go.frozen_of_row
abbrev AO:=@Go.Sem.run_bind
abbrev AU:=@Go.heap_setCell_same
abbrev AV:=@Go.Sem.run_pure
abbrev Bc:=@Go.setRow_other
abbrev Be:=@Go.results_cell_row
abbrev Bm:=@Go.run_underlying
abbrev BF:=@Go.RowKit.Below.block
abbrev Ca:=@Go.RowKit.Below.cell
abbrev Cb:=@Go.World.frozen?_of_block
abbrev Cj:=@Go.wp_region_held_drew
abbrev Cq:=@Go.wpAnyH_done
abbrev Cr:=@Go.RowKit.Below.trans
abbrev C6:=@Go.IntKind.wrap_u64
abbrev CB:=@Go.run_loadVar_row
abbrev CM:=@Go.MapKept.run_getObj_map
abbrev CX:=@Go.wp_region_lit
abbrev CZ:=@Go.rounds_succ
abbrev Dg:=@Go.World.ownsRow_nil
abbrev D9:=@Go.AllReadyH.cons
abbrev DP:=@Go.World.ownsRow.cells
abbrev DV:=@Go.heap_alloc_old
abbrev EE:=@Go.run_append_room
abbrev EF:=@Go.run_append_grow
abbrev EG:=@Go.wpList_load_row
abbrev ET:=@Go.run_append_own
abbrev EU:=@Go.run_append_nil
@[match_pattern]abbrev σ(a:Option Addr)(n c:Nat):Value:=.slice a n c
@[match_pattern]abbrev ι(n:Int):Value:=.int .i64 n
@[match_pattern]abbrev β(b:Bool):Value:=.bool b
@[match_pattern]abbrev π(g:Nat):Value:=.pointer (some ⟨g,0,none⟩)
@[match_pattern]abbrev ω(v:Value):Ending:=.returned v
@[match_pattern]abbrev ψ(g o:Nat):Value:=.pointer (some ⟨g,o,none⟩)
abbrev ζ(g o:Nat):Option Addr:=some ⟨g,o,none⟩
@[match_pattern]abbrev ε:Value:=.slice none 0 0
@[match_pattern]abbrev η(n:Int):Value:=.int .u8 n
@[match_pattern]abbrev ξ(n:Int):Value:=.int .u64 n
abbrev Λ(w v:World):Prop:=Go.RowKit.Below w.heap.size w v
abbrev Γ:=World
abbrev Δ:=Value
abbrev Θ:=Nat->Prop
abbrev Ξ:=Array Value
abbrev Φ:=Operand->Value
abbrev τ:=List Int
abbrev Ω:=Option Addr
@[match_pattern]abbrev ν:Value:=.nilIface
@[match_pattern]abbrev θ(a:Array Value):Value:=.tuple a
@[match_pattern]abbrev γ(a:Array Value):Value:=.agg a
abbrev κ(f:FuncId)(a:Array Value)(w:World)(R:Value->World->Prop):Prop:=Calls Tryz.prog f a w λe w'=>∃u,e= .returned u/\R u w'
abbrev υ0:=@Tryz.underlying0
abbrev υ3:=@Tryz.underlying3
abbrev υ4:=@Tryz.underlying4
abbrev υ5:=@Tryz.underlying5
abbrev υ9:=@Tryz.underlying9
abbrev υ22:=@Tryz.underlying22
abbrev υ23:=@Tryz.underlying23
abbrev υ30:=@Tryz.underlying30
abbrev υ32:=@Tryz.underlying32
abbrev υ34:=@Tryz.underlying34
abbrev υ43:=@Tryz.underlying43
abbrev υ44:=@Tryz.underlying44
abbrev υ55:=@Tryz.underlying55
abbrev υ60:=@Tryz.underlying60
abbrev υ69:=@Tryz.underlying69
abbrev υ80:=@Tryz.underlying80
abbrev υ82:=@Tryz.underlying82
abbrev υ84:=@Tryz.underlying84
abbrev υ85:=@Tryz.underlying85
abbrev υ88:=@Tryz.underlying88
abbrev υ90:=@Tryz.underlying90
abbrev υ99:=@Tryz.underlying99
abbrev υ106:=@Tryz.underlying106
abbrev υ108:=@Tryz.underlying108
abbrev υ110:=@Tryz.underlying110
abbrev υ111:=@Tryz.underlying111
abbrev υ118:=@Tryz.underlying118
abbrev υ119:=@Tryz.underlying119
abbrev υ121:=@Tryz.underlying121
abbrev υ123:=@Tryz.underlying123
abbrev υ127:=@Tryz.underlying127
abbrev υ131:=@Tryz.underlying131
abbrev υ158:=@Tryz.underlying158
abbrev υ160:=@Tryz.underlying160
abbrev υ167:=@Tryz.underlying167
abbrev υ169:=@Tryz.underlying169
abbrev υ170:=@Tryz.underlying170
abbrev υ176:=@Tryz.underlying176
abbrev υ206:=@Tryz.underlying206
abbrev υ210:=@Tryz.underlying210
abbrev υ221:=@Tryz.underlying221
abbrev υ222:=@Tryz.underlying222
abbrev υ248:=@Tryz.underlying248
abbrev υ250:=@Tryz.underlying250
end Go.Proofs.YtkdlocloepbmcaaGreat
