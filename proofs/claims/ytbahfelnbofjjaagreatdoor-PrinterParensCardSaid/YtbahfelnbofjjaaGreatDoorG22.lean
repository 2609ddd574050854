/-
  Arms of a walk over variables that hold an expression; the frame of a method of a scope; A factor of a unit; A list of factors; sortBy: a slice of the call's own, by name; The map of Normal: names to pairs of words; its laws; its range; What the range over the map has put together, whatever its order; The sum of wide integers, as units.Normal asks it.
-/
import Derived.Shelf.SlSortCmp.QuietGrown
import Derived.Maps.RangeWalk
import Derived.Sort.EncStr
import Derived.StringKeys
import Derived.Test.YtbahfelnbofjjaaGreatDoorG21
import Derived.Test.YtbahfelnbofjjaaGreatDoorSwG
set_option maxRecDepth 100000
set_option maxHeartbeats 16000000
namespace Go.Proofs.YtbahfelnbofjjaaGreatDoor
section
open Go.RowKit dec
theorem aJ:(Tryz.prog.info? 29).map (·.size)=some 12:=by kernel_rfl
theorem aO {ops:Array Oper} {rest:List Oper} {o:Oper} {a:Act} {w:World} {Q:Exit→Act→World→Prop} (x y:Operand) (ho:o.op=.store 29 x y) (hgd:o.guard=none)
  (g:Nat) (T:TypeId) (cells old:Array Value) (hx:a.eval x=.pointer (some ⟨g,0,none⟩)) (hy:a.eval y=.agg cells) (hB:Blk w g T old) (hs:old.size=12) (hc:cells.size=12) (h1:cells.all (·.oneCell')=true)
  (h:∀ w',Blk w' g T cells→St g w w'→wpList Tryz.prog ops Q rest (a.put o.dst undef) w'):wpList Tryz.prog ops Q (o :: rest) a w :=
 wpList_store_row hgd 29 x y ho g cells hx hy T old hB (by rw [hc];exact aJ) (by omega) h1 (h _ (gX hB cells) (iO w g cells))
theorem bA {ops:Array Oper} {rest:List Oper} {o:Oper} {a:Act} {w:World} {Q:Exit→Act→World→Prop} (x:Operand) (ho:o.op=.load 29 x) (hgd:o.guard=none)
  (g:Nat) (T:TypeId) (cells:Array Value) (hx:a.eval x=.pointer (some ⟨g,0,none⟩)) (hB:Blk w g T cells) (hc:cells.size=12)
  (h:wpList Tryz.prog ops Q rest (a.put o.dst (.agg cells)) w):wpList Tryz.prog ops Q (o :: rest) a w :=
 wpList_load_row hgd 29 x ho g hx T cells (0,0) _ hB Tryz.underlying29 rfl (by rw [hc];exact aJ) h
def oH:TypeDesc→Bool
 | .struct _=>true
 | .array _ _=>true
 | _=>false
theorem aL {T:TypeId} {n:Nat} (hi:(Tryz.prog.info? T).map (·.size)=some n) {ops:Array Oper} {rest:List Oper} {o:Oper} {a:Act} {w:World} {Q:Exit→Act→World→Prop} (x y:Operand) (ho:o.op=.store T x y) (hgd:o.guard=none)
  (g:Nat) (T':TypeId) (cells old:Array Value) (hx:a.eval x=.pointer (some ⟨g,0,none⟩)) (hy:a.eval y=.agg cells) (hB:Blk w g T' old) (hs:old.size=n) (hc:cells.size=n) (h1:cells.all (·.oneCell')=true)
  (h:∀ w',Blk w' g T' cells→St g w w'→wpList Tryz.prog ops Q rest (a.put o.dst undef) w'):wpList Tryz.prog ops Q (o :: rest) a w :=
 wpList_store_row hgd T x y ho g cells hx hy T' old hB (by rw [hc];exact hi) (by omega) h1 (h _ (gX hB cells) (iO w g cells))
theorem aF {T:TypeId} {n:Nat} {d:TypeDesc} (hi:(Tryz.prog.info? T).map (·.size)=some n) (hu:Tryz.prog.underlying T=some d) (hd:oH d=true)
  {ops:Array Oper} {rest:List Oper} {o:Oper} {a:Act} {w:World} {Q:Exit→Act→World→Prop} (x:Operand) (ho:o.op=.load T x) (hgd:o.guard=none)
  (g:Nat) (T':TypeId) (cells:Array Value) (hx:a.eval x=.pointer (some ⟨g,0,none⟩)) (hB:Blk w g T' cells) (hc:cells.size=n)
  (h:wpList Tryz.prog ops Q rest (a.put o.dst (.agg cells)) w):wpList Tryz.prog ops Q (o :: rest) a w :=
 wpList_load_row hgd T x ho g hx T' cells (0,0) d hB hu (by cases d <;> first | rfl | cases hd) (by rw [hc];exact hi) h
theorem bK {T:TypeId} {n:Nat} {d:TypeDesc} (hi:(Tryz.prog.info? T).map (·.size)=some n) (hu:Tryz.prog.underlying T=some d) (hd:oH d=true)
  {fn:Func} {R:Ending→World→Prop} {p:Tmp} (h:fn.results=#[.cell p T]) (tmps:Array Value) (w:World) (g:Nat) (T':TypeId) (cells:Array Value) (hp:tmps.getD p undef=.pointer (some ⟨g,0,none⟩))
  (hB:Blk w g T' cells) (hc:cells.size=n) (hR:R (.returned (.agg cells)) w):bodyPost Tryz.prog fn R .ret ⟨tmps,[]⟩ w :=
 bodyPost_ret (results_cell_row h tmps w g T' cells (0,0) d hp hB hu (by cases d <;> first | rfl | cases hd) (by rw [hc];exact hi)) rfl hR
theorem iq (x y:Operand) {o:Oper} {a:Act} {w:World} {K:Act→World→Prop} {Q:Exit→Act→World→Prop} (ho:o.op=.store 29 x y)
  (g:Nat) (T':TypeId) (cells old:Array Value) (hx:a.eval x=.pointer (some ⟨g,0,none⟩)) (hy:a.eval y=.agg cells) (hB:Blk w g T' old) (hs:old.size=12) (hc:cells.size=12) (h1:cells.all (·.oneCell')=true)
  (h:∀ w',Blk w' g T' cells→St g w w'→K (a.put o.dst undef) w'):o.wp Tryz.prog a w K Q :=
 wp_store_row 29 x y ho g cells hx hy T' old hB (by rw [hc];exact aJ) (by omega) h1 (h _ (gX hB cells) (iO w g cells))
theorem lQ (x:Operand) {o:Oper} {a:Act} {w:World} {K:Act→World→Prop} {Q:Exit→Act→World→Prop} (ho:o.op=.load 29 x)
  (g:Nat) (T':TypeId) (cells:Array Value) (hx:a.eval x=.pointer (some ⟨g,0,none⟩)) (hB:Blk w g T' cells) (hc:cells.size=12)
  (h:K (a.put o.dst (.agg cells)) w):o.wp Tryz.prog a w K Q :=
 wp_load_row 29 x ho g hx T' cells (0,0) _ hB Tryz.underlying29 rfl (by rw [hc];exact aJ) h
theorem aY {T:TypeId} {n:Nat} {d:TypeDesc} (hi:(Tryz.prog.info? T).map (·.size)=some n) (hu:Tryz.prog.underlying T=some d) (hd:oH d=true) {oi:Oper} {a:Act} {w:World} (x:Operand) (ho:oi.op=.load T x)
    (g:Nat) (T':TypeId) (cells:Array Value) (hx:a.eval x=.pointer (some ⟨g,0,none⟩)) (hB:Blk w g T' cells) (hc:cells.size=n):(execOp a.eval oi).run Tryz.prog w=.ok (.value (.agg cells)) w:=by
 unfold execOp;have:=run_loadVar_row (P:=Tryz.prog) w g T' T cells (0,0) d hB hu (by cases d <;> first | rfl | cases hd) (by rw [hc];exact hi);simp only [ho,hx,Instr.loadAt,Instr.sureAddr,Sem.run_bind,Sem.run_pure,Result.andThen_ok,this]
theorem vH:(Tryz.prog.info? 108).map (·.size)=some 2:=by kernel_rfl
theorem eF:(Tryz.prog.info? 82).map (·.size)=some 2:=by kernel_rfl
theorem kK:(Tryz.prog.info? 31).map (·.size)=some 3:=by kernel_rfl
theorem fK:(Tryz.prog.info? 26).map (·.size)=some 2:=by kernel_rfl
theorem oQ:(Tryz.prog.info? 88).map (·.size)=some 4:=by kernel_rfl
theorem aQ (x:Ex) (ua:Option Addr) (uc:Nat) (aa:Option Addr) (ac:Nat):(exC x ua uc aa ac).all (·.oneCell')=true:=by simp [exC,Value.oneCell']
def zE:Array Value:=#[.int .i64 0,.string ⟨#[]⟩,.string ⟨#[]⟩,.string ⟨#[]⟩,.int .i64 0,.int .i64 0,.string ⟨#[]⟩,.slice none 0 0,.int .i64 0,.int .i64 0,.int .i64 0,.slice none 0 0]
theorem aW {fn:Func} {R:Ending→World→Prop} {p:Tmp} (h:fn.results=#[.cell p 29]) (tmps:Array Value) (w:World) (g:Nat) (T:TypeId) (cells:Array Value) (hp:tmps.getD p undef=.pointer (some ⟨g,0,none⟩))
  (hB:Blk w g T cells) (hc:cells.size=12) (hR:R (.returned (.agg cells)) w):bodyPost Tryz.prog fn R .ret ⟨tmps,[]⟩ w :=
 bodyPost_ret (results_cell_row h tmps w g T cells (0,0) _ hp hB Tryz.underlying29 rfl (by rw [hc];exact aJ)) rfl hR
structure Fr (w0 w:World) (B:Nat) (i:Bool) (res:Array Value):Prop where
 mv:Mv w0.heap.size B w0 w
 sc:Blk w w0.heap.size 108 #[.pointer (some ⟨B,0,none⟩),.bool i]
 rz:Blk w (w0.heap.size+1) 29 res
 hB:B<w0.heap.size
theorem Fr.start {w:World} {B:Nat} (i:Bool) (h:B<w.heap.size):Fr w ((w.alloc (.cells #[.pointer (some ⟨B,0,none⟩),.bool i] 108)).alloc (.cells zE 29)) B i zE :=
 ⟨((Mv.refl _ _ _).alloc lr _).alloc lr _,(Blk.new _ _ _).past _,by have:=Blk.new (w.alloc (.cells #[.pointer (some ⟨B,0,none⟩),.bool i] 108)) 29 zE;simpa using this,h⟩
theorem Fr.lt {w0 w:World} {B:Nat} {i:Bool} {res:Array Value} (h:Fr w0 w B i res):w0.heap.size+2≤w.heap.size:=h.rz.lt
theorem Fr.next {w0 w w':World} {B:Nat} {i:Bool} {res:Array Value} (h:Fr w0 w B i res) (M:Mv w.heap.size B w w'):Fr w0 w' B i res:=by
 have:=h.lt;have:=h.hB;exact ⟨h.mv.up M (by omega),h.sc.mv M (by omega) (by omega),h.rz.mv M (by omega) (by omega),h.hB⟩
theorem Fr.cu {w0 w w':World} {B:Nat} {i:Bool} {res:Array Value} (h:Fr w0 w B i res) (M:Below w.heap.size w w'):Fr w0 w' B i res:=h.next (.of M)
theorem Fr.alloc {w0 w:World} {B:Nat} {i:Bool} {res:Array Value} (h:Fr w0 w B i res) (o:Obj):Fr w0 (w.alloc o) B i res:=h.next (.of (au (b0 w) o))
theorem Fr.st {w0 w w':World} {B:Nat} {i:Bool} {res:Array Value} {g:Nat} (h:Fr w0 w B i res) (M:St g w w') (hg:w0.heap.size+2≤g):Fr w0 w' B i res :=
 ⟨h.mv.trans (M.mv (by omega)),h.sc.st M (by omega),h.rz.st M (by omega),h.hB⟩
theorem Fr.set {w0 w w':World} {B:Nat} {i:Bool} {res cells:Array Value} (h:Fr w0 w B i res) (M:St (w0.heap.size+1) w w') (hb:Blk w' (w0.heap.size+1) 29 cells):Fr w0 w' B i cells :=
 ⟨h.mv.trans (M.mv (by omega)),h.sc.st M (by omega),hb,h.hB⟩
theorem Fr.c0 {w0 w:World} {B:Nat} {i:Bool} {res:Array Value} (h:Fr w0 w B i res):w.cell? ⟨w0.heap.size,0,none⟩=some (.pointer (some ⟨B,0,none⟩)):=h.sc.cell 0
theorem Fr.c1 {w0 w:World} {B:Nat} {i:Bool} {res:Array Value} (h:Fr w0 w B i res):w.cell? ⟨w0.heap.size,1,none⟩=some (.bool i):=h.sc.cell 1
end
namespace pa
open Go.RowKit dec
theorem BF (B:Nat) (l:List Tk) (w:World) (h:Ps w B l) (r:Rs un.Fa) (hr:fac l=r) (hne:r≠.out) :
    Calls Tryz.prog 180 #[.pointer (some ⟨B,0,none⟩)] w (Pst B Fv r w):=by
 have b1:=au (b0 w) (.cells #[.string ⟨#[]⟩,.int .i64 0] 82);have hlt:=Hy h.lt;have P:=Hy (h.keeps b1);have M:=Hy (Mv.of (B:=B) b1);have R:=Hy (Blk.new w 82 #[.string ⟨#[]⟩,.int .i64 0]);have NE:=Hy hne;unfold fac at hr;have HR:=Hy hr;clear h hne hr b1
 go_enter Tryz.func180,Tryz.ntmps180
 go_wp2_with fail;refine (qC B l _ P.o _ rfl (iV _)).mono ?_;rintro e w1 h1;rcases hG1:nam l with _ | ⟨v1,l1⟩ | ⟨a1,c1,l1⟩
 ·exact absurd hG1 (iV _)
 rotate_left
 ·rw [hG1] at h1;obtain ⟨rfl,pp,mm⟩:=h1;unfold thr;have hno:=bno HR hG1;have PP:=Hy pp;have MM:=Hy (M.o.next mm);clear pp mm hG1;go_wp2_with fail;exact ⟨rfl,aH hno.o PP.o MM.o⟩
 rw [hG1] at h1;obtain ⟨u1,rfl,vv,pp,mm⟩:=h1;replace HR:=HR.o;rw [hG1] at HR;simp only [aD] at HR;replace HR:=Hy HR;replace R:=Hy (R.o.mv mm (by have:=hlt.o;omega) (by simp));have L:=Hy (Blk.new w1 82 #[.string v1,.int .i64 1]);replace R:=Hy (R.o.past (.cells #[.string v1,.int .i64 1] 82));have b2:=au (b0 w1) (.cells #[.string v1,.int .i64 1] 82);replace P:=Hy (pp.keeps b2);have hw1:=Hy mm.size;replace M:=Hy ((M.o.next mm).cu b2);clear pp mm hG1 b2;obtain rfl:u1=.string v1:=vv;go_wp2_with fail;have hgw:=Hy (show w.heap.size<w1.heap.size from by have:=hw1.o;simp at this;omega);clear hw1;generalize w1.alloc (.cells #[.string v1,.int .i64 1] 82)=W at *;generalize w1.heap.size=g at *;cases ht:isT ⟨#[94]⟩ l1
 ·replace HR:=Hy (show Rs.ok (v1,1) l1=r by rw [← HR.o,ht];rfl);have HT:=Hy ht;clear ht;refine (aV B ⟨#[94]⟩ l1 _ P.o HT.o).mono ?_;rintro e w2 ⟨rfl,pp,mm⟩;replace R:=Hy (R.o.mv mm (by have:=hlt.o;omega) (R.o.lt));replace L:=Hy (L.o.mv mm (by have:=hlt.o;have:=hgw.o;omega) (L.o.lt));replace P:=Hy pp;replace M:=Hy (M.o.next mm);clear pp mm HT;go_wp2_with (first | (refine aF eF Tryz.underlying82 rfl (.tmp 3) rfl rfl _ _ _ rfl L.o rfl ?_) | (refine aL eF (.tmp 2) (.tmp 19) rfl rfl _ _ _ _ rfl rfl R.o rfl rfl (by simp [Value.oneCell']) ?_;intro w9 hb9 hs9));replace P:=Hy (P.o.st hs9 hlt.o);replace M:=Hy (M.o.trans (hs9.mv lr));refine bK eF Tryz.underlying82 rfl rfl _ _ _ _ _ rfl hb9 rfl ?_;exact aR HR.o.symm rfl P.o M.o
 cases ht2:isT ⟨#[45]⟩ l1.tail
 ·replace HR:=Hy (show ((int l1.tail).bind fun x r=>Rs.ok (v1,IntKind.i64.wrap (1 * min x 1099511627776)) r)=r by rw [← HR.o,ht,ht2];rfl);have HT:=Hy ht;have HT2:=Hy ht2;clear ht ht2;refine (bZ B ⟨#[94]⟩ l1 _ P.o HT.o).mono ?_;rintro e w2 ⟨rfl,pp,mm⟩;replace R:=Hy (R.o.mv mm (by have:=hlt.o;omega) (R.o.lt));replace L:=Hy (L.o.mv mm (by have:=hlt.o;have:=hgw.o;omega) (L.o.lt));replace P:=Hy pp;replace M:=Hy (M.o.next mm);clear pp mm HT;go_wp2_with fail;refine (aV B ⟨#[45]⟩ l1.tail _ P.o HT2.o).mono ?_;rintro e w3 ⟨rfl,pp,mm⟩;replace R:=Hy (R.o.mv mm (by have:=hlt.o;omega) (R.o.lt));replace L:=Hy (L.o.mv mm (by have:=hlt.o;have:=hgw.o;omega) (L.o.lt));replace P:=Hy pp;replace M:=Hy (M.o.next mm);clear pp mm HT2;go_wp2_with fail;refine wp_region_held_drew (S:=fun _=>True) (by kernel_rfl) trivial (fun hH=>?_);have P':=Hy (P.o.keeps (b0 _).drew);have M':=Hy (M.o.cu (b0 w3).drew);have L':=Hy (show Blk w3.drew g 82 #[.string v1,.int .i64 (1)] from L.o);have R':=Hy (show Blk w3.drew w.heap.size 82 #[.string ⟨#[]⟩,.int .i64 0] from R.o);refine ak 0 12 ?_ hH (fun w' hS=>?_) ?_;rotate_left
  ·go_simp;try with_reducible rfl
  simp only [sz0,sz1];refine ak 2 14 ?_ hH (fun w' hS=>?_) ?_;rotate_left
  ·go_simp;try with_reducible rfl
  simp only [sz0,sz1];refine iY (i:=1) (j:=3) rfl rfl (by kernel_rfl) rfl rfl (fun K hK=>?_) (fun K hK=>?_)
  ·have e1:=L'.o.cell 1;go_simp;refine hK.o _ _ trivial (fun hH=>?_);clear hK K;clear e1;refine aC 3 (fun K hK=>?_);go_simp;refine (fF B l1.tail _ P'.o _ rfl (int_ne _)).mono ?_;rintro e w4 h4;rcases hG4:int l1.tail with _ | ⟨v4,l4⟩ | ⟨a4,c4,l4⟩
   ·exact absurd hG4 (int_ne _)
   rotate_left
   ·rw [hG4] at h4;obtain ⟨rfl,pp,mm⟩:=h4;unfold thr;exact ⟨rfl,aH (by rw [← HR.o,hG4];rfl) pp (M'.o.next mm)⟩
   rw [hG4] at h4;obtain ⟨u4,rfl,vv,pp,mm⟩:=h4;obtain rfl:u4=.int .i64 v4:=vv;replace HR:=Hy (show Rs.ok (v1,IntKind.i64.wrap (1 * min v4 1099511627776)) l4=r by rw [← HR.o,hG4];rfl);replace L:=Hy (L'.o.mv mm (by have:=hlt.o;have:=hgw.o;omega) L'.o.lt);replace R:=Hy (R'.o.mv mm (by have:=hlt.o;omega) R'.o.lt);replace P:=Hy pp;replace M:=Hy (M'.o.next mm);clear P' pp mm hG4;refine hK.o _ _ trivial (fun hH=>?_);clear hK K;refine aC 4 (fun K hK=>?_);go_simp;generalize hm:min v4 1099511627776=m at *;replace hm:=Hy hm;refine hK.o _ _ trivial (fun hH=>?_);clear hK K;refine aC 5 (fun K hK=>?_);go_simp;refine hK.o _ _ trivial (fun hH=>?_);clear hK K;refine aC 6 (fun K hK=>?_);go_simp;refine hK.o _ _ trivial (fun hH=>?_);clear hK K;refine aC 7 (fun K hK=>?_);have e1:=L.o.cell 1;have z1:=L.o.free 1;go_simp;have L2:=L.o.setCell 1 (.int .i64 (IntKind.i64.wrap m));have L3:=Hy (show Blk _ g 82 #[.string v1,.int .i64 (IntKind.i64.wrap m)] from L2.1);replace P:=Hy (P.o.st L2.2 (by have:=hlt.o;have:=hgw.o;omega));replace R:=Hy (R.o.st L2.2 (by have:=hgw.o;omega));replace M:=Hy (M.o.trans (L2.2.mv (by have:=hgw.o;omega)));replace L:=L3;replace HR:=Hy (show Rs.ok (v1,(IntKind.i64.wrap m)) l4=r from by rw [← HR.o];congr 2;simp);clear L2 L3 e1 z1;refine hK.o _ _ trivial (fun hH=>?_);clear hK K;refine wpAnyH_done (by kernel_rfl) ?_ _;go_wp2_with (first | (refine aF eF Tryz.underlying82 rfl (.tmp 3) rfl rfl _ _ _ rfl L.o rfl ?_) | (refine aL eF (.tmp 2) (.tmp 19) rfl rfl _ _ _ _ rfl rfl R.o rfl rfl (by simp [Value.oneCell']) ?_;intro w9 hb9 hs9));replace P:=Hy (P.o.st hs9 hlt.o);replace M:=Hy (M.o.trans (hs9.mv lr));refine bK eF Tryz.underlying82 rfl rfl _ _ _ _ _ rfl hb9 rfl ?_;exact aR HR.o.symm rfl P.o M.o
  go_simp;refine (fF B l1.tail _ P'.o _ rfl (int_ne _)).mono ?_;rintro e w4 h4;rcases hG4:int l1.tail with _ | ⟨v4,l4⟩ | ⟨a4,c4,l4⟩
  ·exact absurd hG4 (int_ne _)
  rotate_left
  ·rw [hG4] at h4;obtain ⟨rfl,pp,mm⟩:=h4;unfold thr;exact ⟨rfl,aH (by rw [← HR.o,hG4];rfl) pp (M'.o.next mm)⟩
  rw [hG4] at h4;obtain ⟨u4,rfl,vv,pp,mm⟩:=h4;obtain rfl:u4=.int .i64 v4:=vv;replace HR:=Hy (show Rs.ok (v1,IntKind.i64.wrap (1 * min v4 1099511627776)) l4=r by rw [← HR.o,hG4];rfl);replace L:=Hy (L'.o.mv mm (by have:=hlt.o;have:=hgw.o;omega) L'.o.lt);replace R:=Hy (R'.o.mv mm (by have:=hlt.o;omega) R'.o.lt);replace P:=Hy pp;replace M:=Hy (M'.o.next mm);clear P' pp mm hG4;refine hK.o _ _ trivial (fun hH=>?_);clear hK K;refine iY (i:=1) (j:=4) rfl rfl (by kernel_rfl) rfl rfl (fun K hK=>?_) (fun K hK=>?_)
  ·have e1:=L.o.cell 1;go_simp;refine hK.o _ _ trivial (fun hH=>?_);clear hK K;clear e1;refine aC 4 (fun K hK=>?_);go_simp;generalize hm:min v4 1099511627776=m at *;replace hm:=Hy hm;refine hK.o _ _ trivial (fun hH=>?_);clear hK K;refine aC 5 (fun K hK=>?_);go_simp;refine hK.o _ _ trivial (fun hH=>?_);clear hK K;refine aC 6 (fun K hK=>?_);go_simp;refine hK.o _ _ trivial (fun hH=>?_);clear hK K;refine aC 7 (fun K hK=>?_);have e1:=L.o.cell 1;have z1:=L.o.free 1;go_simp;have L2:=L.o.setCell 1 (.int .i64 (IntKind.i64.wrap m));have L3:=Hy (show Blk _ g 82 #[.string v1,.int .i64 (IntKind.i64.wrap m)] from L2.1);replace P:=Hy (P.o.st L2.2 (by have:=hlt.o;have:=hgw.o;omega));replace R:=Hy (R.o.st L2.2 (by have:=hgw.o;omega));replace M:=Hy (M.o.trans (L2.2.mv (by have:=hgw.o;omega)));replace L:=L3;replace HR:=Hy (show Rs.ok (v1,(IntKind.i64.wrap m)) l4=r from by rw [← HR.o];congr 2;simp);clear L2 L3 e1 z1;refine hK.o _ _ trivial (fun hH=>?_);clear hK K;refine wpAnyH_done (by kernel_rfl) ?_ _;go_wp2_with (first | (refine aF eF Tryz.underlying82 rfl (.tmp 3) rfl rfl _ _ _ rfl L.o rfl ?_) | (refine aL eF (.tmp 2) (.tmp 19) rfl rfl _ _ _ _ rfl rfl R.o rfl rfl (by simp [Value.oneCell']) ?_;intro w9 hb9 hs9));replace P:=Hy (P.o.st hs9 hlt.o);replace M:=Hy (M.o.trans (hs9.mv lr));refine bK eF Tryz.underlying82 rfl rfl _ _ _ _ _ rfl hb9 rfl ?_;exact aR HR.o.symm rfl P.o M.o
  go_simp;generalize hm:min v4 1099511627776=m at *;replace hm:=Hy hm;refine hK.o _ _ trivial (fun hH=>?_);clear hK K;refine aC 1 (fun K hK=>?_);have e1:=L.o.cell 1;go_simp;refine hK.o _ _ trivial (fun hH=>?_);clear hK K;clear e1;refine aC 5 (fun K hK=>?_);go_simp;refine hK.o _ _ trivial (fun hH=>?_);clear hK K;refine aC 6 (fun K hK=>?_);go_simp;refine hK.o _ _ trivial (fun hH=>?_);clear hK K;refine aC 7 (fun K hK=>?_);have e1:=L.o.cell 1;have z1:=L.o.free 1;go_simp;have L2:=L.o.setCell 1 (.int .i64 (IntKind.i64.wrap m));have L3:=Hy (show Blk _ g 82 #[.string v1,.int .i64 (IntKind.i64.wrap m)] from L2.1);replace P:=Hy (P.o.st L2.2 (by have:=hlt.o;have:=hgw.o;omega));replace R:=Hy (R.o.st L2.2 (by have:=hgw.o;omega));replace M:=Hy (M.o.trans (L2.2.mv (by have:=hgw.o;omega)));replace L:=L3;replace HR:=Hy (show Rs.ok (v1,(IntKind.i64.wrap m)) l4=r from by rw [← HR.o];congr 2;simp);clear L2 L3 e1 z1;refine hK.o _ _ trivial (fun hH=>?_);clear hK K;refine wpAnyH_done (by kernel_rfl) ?_ _;go_wp2_with (first | (refine aF eF Tryz.underlying82 rfl (.tmp 3) rfl rfl _ _ _ rfl L.o rfl ?_) | (refine aL eF (.tmp 2) (.tmp 19) rfl rfl _ _ _ _ rfl rfl R.o rfl rfl (by simp [Value.oneCell']) ?_;intro w9 hb9 hs9));replace P:=Hy (P.o.st hs9 hlt.o);replace M:=Hy (M.o.trans (hs9.mv lr));refine bK eF Tryz.underlying82 rfl rfl _ _ _ _ _ rfl hb9 rfl ?_;exact aR HR.o.symm rfl P.o M.o
 replace HR:=Hy (show ((int l1.tail.tail).bind fun x r=>Rs.ok (v1,IntKind.i64.wrap (-1 * min x 1099511627776)) r)=r by rw [← HR.o,ht,ht2];rfl);have HT:=Hy ht;have HT2:=Hy ht2;clear ht ht2;refine (bZ B ⟨#[94]⟩ l1 _ P.o HT.o).mono ?_;rintro e w2 ⟨rfl,pp,mm⟩;replace R:=Hy (R.o.mv mm (by have:=hlt.o;omega) (R.o.lt));replace L:=Hy (L.o.mv mm (by have:=hlt.o;have:=hgw.o;omega) (L.o.lt));replace P:=Hy pp;replace M:=Hy (M.o.next mm);clear pp mm HT;go_wp2_with fail;refine (bZ B ⟨#[45]⟩ l1.tail _ P.o HT2.o).mono ?_;rintro e w3 ⟨rfl,pp,mm⟩;replace R:=Hy (R.o.mv mm (by have:=hlt.o;omega) (R.o.lt));replace L:=Hy (L.o.mv mm (by have:=hlt.o;have:=hgw.o;omega) (L.o.lt));replace P:=Hy pp;replace M:=Hy (M.o.next mm);clear pp mm HT2;have e1:=L.o.cell 1;have z1:=L.o.free 1;have L2:=L.o.setCell 1 (.int .i64 (-1));have L3:=Hy (show Blk _ g 82 #[.string v1,.int .i64 (-1)] from L2.1);replace P:=Hy (P.o.st L2.2 (by have:=hlt.o;have:=hgw.o;omega));replace R:=Hy (R.o.st L2.2 (by have:=hgw.o;omega));replace M:=Hy (M.o.trans (L2.2.mv (by have:=hgw.o;omega)));replace L:=L3;clear L2 L3;go_wp2_with fail;clear e1 z1;generalize w3.setCell ⟨g,1,none⟩ (.int .i64 (-1))=w5 at *;refine wp_region_held_drew (S:=fun _=>True) (by kernel_rfl) trivial (fun hH=>?_);have P':=Hy (P.o.keeps (b0 _).drew);have M':=Hy (M.o.cu (b0 w5).drew);have L':=Hy (show Blk w5.drew g 82 #[.string v1,.int .i64 (-1)] from L.o);have R':=Hy (show Blk w5.drew w.heap.size 82 #[.string ⟨#[]⟩,.int .i64 0] from R.o);refine ak 0 12 ?_ hH (fun w' hS=>?_) ?_;rotate_left
 ·go_simp;try with_reducible rfl
 simp only [sz0,sz1];refine ak 2 14 ?_ hH (fun w' hS=>?_) ?_;rotate_left
 ·go_simp;try with_reducible rfl
 simp only [sz0,sz1];refine iY (i:=1) (j:=3) rfl rfl (by kernel_rfl) rfl rfl (fun K hK=>?_) (fun K hK=>?_)
 ·have e1:=L'.o.cell 1;go_simp;refine hK.o _ _ trivial (fun hH=>?_);clear hK K;clear e1;refine aC 3 (fun K hK=>?_);go_simp;refine (fF B l1.tail.tail _ P'.o _ rfl (int_ne _)).mono ?_;rintro e w4 h4;rcases hG4:int l1.tail.tail with _ | ⟨v4,l4⟩ | ⟨a4,c4,l4⟩
  ·exact absurd hG4 (int_ne _)
  rotate_left
  ·rw [hG4] at h4;obtain ⟨rfl,pp,mm⟩:=h4;unfold thr;exact ⟨rfl,aH (by rw [← HR.o,hG4];rfl) pp (M'.o.next mm)⟩
  rw [hG4] at h4;obtain ⟨u4,rfl,vv,pp,mm⟩:=h4;obtain rfl:u4=.int .i64 v4:=vv;replace HR:=Hy (show Rs.ok (v1,IntKind.i64.wrap (-1 * min v4 1099511627776)) l4=r by rw [← HR.o,hG4];rfl);replace L:=Hy (L'.o.mv mm (by have:=hlt.o;have:=hgw.o;omega) L'.o.lt);replace R:=Hy (R'.o.mv mm (by have:=hlt.o;omega) R'.o.lt);replace P:=Hy pp;replace M:=Hy (M'.o.next mm);clear P' pp mm hG4;refine hK.o _ _ trivial (fun hH=>?_);clear hK K;refine aC 4 (fun K hK=>?_);go_simp;generalize hm:min v4 1099511627776=m at *;replace hm:=Hy hm;refine hK.o _ _ trivial (fun hH=>?_);clear hK K;refine aC 5 (fun K hK=>?_);go_simp;refine hK.o _ _ trivial (fun hH=>?_);clear hK K;refine aC 6 (fun K hK=>?_);go_simp;refine hK.o _ _ trivial (fun hH=>?_);clear hK K;refine aC 7 (fun K hK=>?_);have e1:=L.o.cell 1;have z1:=L.o.free 1;go_simp;have L2:=L.o.setCell 1 (.int .i64 (IntKind.i64.wrap (-m)));have L3:=Hy (show Blk _ g 82 #[.string v1,.int .i64 (IntKind.i64.wrap (-m))] from L2.1);replace P:=Hy (P.o.st L2.2 (by have:=hlt.o;have:=hgw.o;omega));replace R:=Hy (R.o.st L2.2 (by have:=hgw.o;omega));replace M:=Hy (M.o.trans (L2.2.mv (by have:=hgw.o;omega)));replace L:=L3;replace HR:=Hy (show Rs.ok (v1,(IntKind.i64.wrap (-m))) l4=r from by rw [← HR.o];congr 2;simp);clear L2 L3 e1 z1;refine hK.o _ _ trivial (fun hH=>?_);clear hK K;refine wpAnyH_done (by kernel_rfl) ?_ _;go_wp2_with (first | (refine aF eF Tryz.underlying82 rfl (.tmp 3) rfl rfl _ _ _ rfl L.o rfl ?_) | (refine aL eF (.tmp 2) (.tmp 19) rfl rfl _ _ _ _ rfl rfl R.o rfl rfl (by simp [Value.oneCell']) ?_;intro w9 hb9 hs9));replace P:=Hy (P.o.st hs9 hlt.o);replace M:=Hy (M.o.trans (hs9.mv lr));refine bK eF Tryz.underlying82 rfl rfl _ _ _ _ _ rfl hb9 rfl ?_;exact aR HR.o.symm rfl P.o M.o
 go_simp;refine (fF B l1.tail.tail _ P'.o _ rfl (int_ne _)).mono ?_;rintro e w4 h4;rcases hG4:int l1.tail.tail with _ | ⟨v4,l4⟩ | ⟨a4,c4,l4⟩
 ·exact absurd hG4 (int_ne _)
 rotate_left
 ·rw [hG4] at h4;obtain ⟨rfl,pp,mm⟩:=h4;unfold thr;exact ⟨rfl,aH (by rw [← HR.o,hG4];rfl) pp (M'.o.next mm)⟩
 rw [hG4] at h4;obtain ⟨u4,rfl,vv,pp,mm⟩:=h4;obtain rfl:u4=.int .i64 v4:=vv;replace HR:=Hy (show Rs.ok (v1,IntKind.i64.wrap (-1 * min v4 1099511627776)) l4=r by rw [← HR.o,hG4];rfl);replace L:=Hy (L'.o.mv mm (by have:=hlt.o;have:=hgw.o;omega) L'.o.lt);replace R:=Hy (R'.o.mv mm (by have:=hlt.o;omega) R'.o.lt);replace P:=Hy pp;replace M:=Hy (M'.o.next mm);clear P' pp mm hG4;refine hK.o _ _ trivial (fun hH=>?_);clear hK K;refine iY (i:=1) (j:=4) rfl rfl (by kernel_rfl) rfl rfl (fun K hK=>?_) (fun K hK=>?_)
 ·have e1:=L.o.cell 1;go_simp;refine hK.o _ _ trivial (fun hH=>?_);clear hK K;clear e1;refine aC 4 (fun K hK=>?_);go_simp;generalize hm:min v4 1099511627776=m at *;replace hm:=Hy hm;refine hK.o _ _ trivial (fun hH=>?_);clear hK K;refine aC 5 (fun K hK=>?_);go_simp;refine hK.o _ _ trivial (fun hH=>?_);clear hK K;refine aC 6 (fun K hK=>?_);go_simp;refine hK.o _ _ trivial (fun hH=>?_);clear hK K;refine aC 7 (fun K hK=>?_);have e1:=L.o.cell 1;have z1:=L.o.free 1;go_simp;have L2:=L.o.setCell 1 (.int .i64 (IntKind.i64.wrap (-m)));have L3:=Hy (show Blk _ g 82 #[.string v1,.int .i64 (IntKind.i64.wrap (-m))] from L2.1);replace P:=Hy (P.o.st L2.2 (by have:=hlt.o;have:=hgw.o;omega));replace R:=Hy (R.o.st L2.2 (by have:=hgw.o;omega));replace M:=Hy (M.o.trans (L2.2.mv (by have:=hgw.o;omega)));replace L:=L3;replace HR:=Hy (show Rs.ok (v1,(IntKind.i64.wrap (-m))) l4=r from by rw [← HR.o];congr 2;simp);clear L2 L3 e1 z1;refine hK.o _ _ trivial (fun hH=>?_);clear hK K;refine wpAnyH_done (by kernel_rfl) ?_ _;go_wp2_with (first | (refine aF eF Tryz.underlying82 rfl (.tmp 3) rfl rfl _ _ _ rfl L.o rfl ?_) | (refine aL eF (.tmp 2) (.tmp 19) rfl rfl _ _ _ _ rfl rfl R.o rfl rfl (by simp [Value.oneCell']) ?_;intro w9 hb9 hs9));replace P:=Hy (P.o.st hs9 hlt.o);replace M:=Hy (M.o.trans (hs9.mv lr));refine bK eF Tryz.underlying82 rfl rfl _ _ _ _ _ rfl hb9 rfl ?_;exact aR HR.o.symm rfl P.o M.o
 go_simp;generalize hm:min v4 1099511627776=m at *;replace hm:=Hy hm;refine hK.o _ _ trivial (fun hH=>?_);clear hK K;refine aC 1 (fun K hK=>?_);have e1:=L.o.cell 1;go_simp;refine hK.o _ _ trivial (fun hH=>?_);clear hK K;clear e1;refine aC 5 (fun K hK=>?_);go_simp;refine hK.o _ _ trivial (fun hH=>?_);clear hK K;refine aC 6 (fun K hK=>?_);go_simp;refine hK.o _ _ trivial (fun hH=>?_);clear hK K;refine aC 7 (fun K hK=>?_);have e1:=L.o.cell 1;have z1:=L.o.free 1;go_simp;have L2:=L.o.setCell 1 (.int .i64 (IntKind.i64.wrap (-m)));have L3:=Hy (show Blk _ g 82 #[.string v1,.int .i64 (IntKind.i64.wrap (-m))] from L2.1);replace P:=Hy (P.o.st L2.2 (by have:=hlt.o;have:=hgw.o;omega));replace R:=Hy (R.o.st L2.2 (by have:=hgw.o;omega));replace M:=Hy (M.o.trans (L2.2.mv (by have:=hgw.o;omega)));replace L:=L3;replace HR:=Hy (show Rs.ok (v1,(IntKind.i64.wrap (-m))) l4=r from by rw [← HR.o];congr 2;simp);clear L2 L3 e1 z1;refine hK.o _ _ trivial (fun hH=>?_);clear hK K;refine wpAnyH_done (by kernel_rfl) ?_ _;go_wp2_with (first | (refine aF eF Tryz.underlying82 rfl (.tmp 3) rfl rfl _ _ _ rfl L.o rfl ?_) | (refine aL eF (.tmp 2) (.tmp 19) rfl rfl _ _ _ _ rfl rfl R.o rfl rfl (by simp [Value.oneCell']) ?_;intro w9 hb9 hs9));replace P:=Hy (P.o.st hs9 hlt.o);replace M:=Hy (M.o.trans (hs9.mv lr));refine bK eF Tryz.underlying82 rfl rfl _ _ _ _ _ rfl hb9 rfl ?_;exact aR HR.o.symm rfl P.o M.o
theorem Aw {S B base:Nat} {w w':World} {v:Value} {l:List un.Fa} (h:un.Own w base v l) (M:Mv S B w w') (hB:B<base) (hS:w.heap.size≤S):un.Own w' base v l:=by
 obtain ⟨h1,h2⟩:=h;refine ⟨h1,?_⟩;rcases h2 with h0 | ⟨g,cap,cur,e,hbg,hh,r⟩
 ·exact .inl h0
 refine .inr ⟨g,cap,cur,e,hbg,?_,r⟩;have:g<w.heap.size:=by
  rcases Nat.lt_or_ge g w.heap.size with h' | h'
  ·exact h'
  rw [Array.getElem?_eq_none h'] at hh;cases hh
 rw [M.block _ (by omega) (by omega)];exact hh
theorem Ll (B:Nat) (s:ByteArray) (l:List Tk) (w:World) (h:Ps w B l) (r:Rs (List un.Fa)) (hr:lst fac s l=r) (hne:r≠.out) :
    Calls Tryz.prog 179 #[.pointer (some ⟨B,0,none⟩),.string s,.func (.func 180) #[.pointer (some ⟨B,0,none⟩)] #[]] w (Pst B (fun C w v l=>un.Own w C v l) r w):=by
 have P:=Hy h;have hlt:=Hy h.lt;have HL:=Hy h.tl.ln;have M:=Hy (Mv.refl w.heap.size B w);have NE:=Hy hne;unfold lst at hr;have HR:=Hy hr;clear h hne hr
 go_enter Tryz.func179,Tryz.ntmps179
 go_wp2_with fail;refine (BF B l _ P.o _ rfl (nY _)).mono ?_;rintro e w1 h1;rcases hG1:fac l with _ | ⟨v1,l1⟩ | ⟨a1,c1,l1⟩
 ·exact absurd hG1 (nY _)
 rotate_left
 ·rw [hG1] at h1;obtain ⟨rfl,pp,mm⟩:=h1;unfold thr;have hno:=bno HR hG1;have PP:=Hy pp;have MM:=Hy (M.o.next mm);clear pp mm hG1;go_wp2_with fail;exact ⟨rfl,aH hno.o PP.o MM.o⟩
 rw [hG1] at h1;obtain ⟨u1,rfl,vv,pp,mm⟩:=h1;replace HR:=HR.o;rw [hG1] at HR;simp only [aD] at HR;replace HR:=Hy HR;obtain rfl:u1=.agg #[.string v1.1,.int .i64 v1.2]:=vv;have M1:=Hy (M.o.next mm);have hs1:=Hy (mm.size);have P1:=Hy pp;replace hG1:=Hy hG1;clear pp mm M P;have hlen:=Hy (show [v1].length+l1.length≤1048576 from by have:=mJ hG1.o;have:=HL.o;simp only [List.length_singleton];omega);go_wp2_with (at_builtin;refine un.jY (.tmp 7) (.tmp 10) rfl ?_;refine un.eP _ rfl (.tmp 7) (.tmp 10) rfl w.heap.size _ [] rfl (un.Own.nil _ _) w1.heap.size v1.1 v1.2 rfl (un.Bw.new w1 v1 82) (by decide) (by have:=hs1.o;simp;omega) ?_;intro v2 w2 O2 b2);have b3:=(au (b0 w1) (.cells #[.string v1.1,.int .i64 v1.2] 82));have P2:=Hy ((P1.o.keeps b3).keep (b2.mono (by have:=hlt.o;omega)));have M2:=Hy ((M1.o.cu b3).trans (.of b2));replace O2:=Hy O2;clear b2 b3 P1 M1 hs1 hG1
 go_loopg [6] (l1.length+1) (fun k v wr => ∃ (x:List un.Fa) (l':List Tk),Hid (un.Own wr w.heap.size v x)∧Hid (Ps wr B l')∧Hid (Mv w.heap.size B w wr)∧Hid (more fac s k x l'=r)∧Hid (x.length+l'.length≤1048576))
 case atStart=>exact ⟨[v1],l1,O2,P2,M2,HR,hlen⟩
 case round =>
  clear O2 P2 M2 HR hlen;obtain ⟨x,l',O,P,M,HR,hlen⟩:=hrel;rcases gk with _ | gk
  ·exact absurd HR.o.symm NE.o
  cases ht:isT s l'
  ·have hok:=Hy (show Rs.ok x l'=r by rw [← HR.o];unfold more;rw [ht];rfl);have HT:=Hy ht;clear ht HR;go_wp2_with fail;refine (aV B s l' _ P.o HT.o).mono ?_;rintro e w3 ⟨rfl,pp,mm⟩;have P3:=Hy pp;have O3:=Hy (Aw O.o mm hlt.o lr);have M3:=Hy (M.o.next mm);clear pp mm P O M;go_wp2_with fail;go_ret;exact aR hok.o.symm O3.o P3.o M3.o
  replace HR:=HR.o;unfold more at HR;rw [ht,if_pos rfl] at HR;replace HR:=Hy HR;have htl:=Hy (bX ht);have HT:=Hy ht;clear ht;go_wp2_with fail;refine (bZ B s l' _ P.o HT.o).mono ?_;rintro e w3 ⟨rfl,pp,mm⟩;replace P:=Hy pp;have O3:=Hy (Aw O.o mm hlt.o lr);have M3:=Hy (M.o.next mm);clear pp mm O M;go_wp2_with fail;refine (BF B l'.tail _ P.o _ rfl (nY _)).mono ?_;rintro e w4 h1;rcases hG1:fac l'.tail with _ | ⟨v1,l1⟩ | ⟨a1,c1,l1⟩
  ·exact absurd hG1 (nY _)
  rotate_left
  ·rw [hG1] at h1;obtain ⟨rfl,pp,mm⟩:=h1;unfold thr;have hno:=bno HR hG1;have PP:=Hy pp;have MM:=Hy (M3.o.next mm);clear pp mm hG1;go_wp2_with fail;exact ⟨rfl,aH hno.o PP.o MM.o⟩
  rw [hG1] at h1;obtain ⟨u1,rfl,vv,pp,mm⟩:=h1;replace HR:=HR.o;rw [hG1] at HR;simp only [aD] at HR;replace HR:=Hy HR;obtain rfl:u1=.agg #[.string v1.1,.int .i64 v1.2]:=vv;have hl2:=Hy (mJ hG1);have O4:=Hy (Aw O3.o mm hlt.o lr);have M4:=Hy (M3.o.next mm);have hxl:=Hy (show x.length<5864062014805 from by have:=hlen.o;omega);have hs1:=Hy M4.o.size;have P4:=Hy pp;clear pp mm hG1 M3 O3 P;go_wp2_with (at_builtin;refine un.jY (.tmp 15) (.tmp 18) rfl ?_;refine un.eP _ rfl (.tmp 15) (.tmp 18) rfl w.heap.size _ x rfl (O4.o.keeps (au (b0 w4) _)) w4.heap.size v1.1 v1.2 rfl (un.Bw.new w4 v1 82) hxl.o (by have:=hs1.o;simp;omega) ?_;intro v2 w2 O2 b2);have b3:=(au (b0 w4) (.cells #[.string v1.1,.int .i64 v1.2] 82));have P2:=Hy ((P4.o.keeps b3).keep (b2.mono (by have:=hlt.o;omega)));have M2:=Hy ((M4.o.cu b3).trans (.of b2));replace O2:=Hy O2;have hlen2:=Hy (show (x++[v1]).length+l1.length≤1048576 from by have:=hlen.o;have:=hl2.o;have:=htl.o;rw [List.length_append,List.length_singleton];omega);clear b2 b3;go_wp2_with fail;go_roundg gk
  case measure=>omega
  case rel=>exact ⟨x++[v1],l1,O2,P2,M2,HR,hlen2⟩
end pa
namespace un
open Go.RowKit Go.Sort Go.Lib dec
def cS (a b:ByteArray):Int:=if ltS a b=true then -1 else if a.toList=b.toList then 0 else 1
theorem N8 (s:ByteArray) (w:World):Calls Tryz.prog 308 #[.string s] w fun e w' => e=.returned (.bool false)∧w'=w:=by
 go_enter Tryz.func308,Tryz.ntmps308
 go_wp2;go_ret;exact ⟨rfl,rfl⟩
theorem LM (a b:ByteArray) (w:World):Calls Tryz.prog 292 #[.string a,.string b] w fun e w' => e=.returned (.int .i64 (cS a b))∧w'=w:=by
 go_enter Tryz.func292,Tryz.ntmps292
 go_wp2_with (go_at_call 308;refine (N8 _ _).mono ?_;rintro e w' ⟨rfl,rfl⟩)
 all_goals go_ret
 all_goals refine ⟨congrArg (fun n=>Ending.returned (Value.int .i64 n)) (Eq.symm ?_),rfl⟩
 all_goals simp_all [cS,ltS]
def enF (x:Fa):List Value:=[.string x.1,.int .i64 x.2]
theorem vw (x y:Fa):ltOf (fun x y:Fa=>cS x.1 y.1) x y=ltS x.1 y.1:=by
 show decide (cS x.1 y.1<0)=_;unfold cS;cases h1:ltS x.1 y.1
 ·rw [if_neg Bool.false_ne_true];split <;> rfl
 rw [if_pos rfl];rfl
theorem Nj:SWO (ltOf fun x y:Fa=>cS x.1 y.1) where
 irrefl x:=by rw [vw];exact nW _
 trans x y z h1 h2:=by rw [vw] at *;exact qD h1 h2
 ntrans x y z h1 h2:=by
  rw [vw] at *
  cases h:ltS x.1 z.1
  ·rfl
  ·exfalso
   by_cases e:x.1=y.1
   ·rw [e,h2] at h;cases h
   ·have a:=xA h1 e
    have:=qD a h
    rw [h2] at this;cases this
theorem asz (w:World) (o:Obj):(w.alloc o).heap.size=w.heap.size+1:=by simp
theorem Mx (W:World) (o1 o2:Obj):∃ os,(W.alloc o1).alloc o2=grow W os:=⟨_,by rw [alloc_eq_grow,alloc_eq_grow,grow_grow]⟩
theorem JE (w:World):grow (w.drewN 0) #[]=w:=by rw [grow_empty];rfl
theorem xI (x:Fa) (w:World):Calls Tryz.prog 245 #[.agg #[.string x.1,.int .i64 x.2]] w fun e w' => e=.returned (.string x.1)∧∃ q os',w'=grow (w.drewN q) os':=by
 go_enter Tryz.func245,Tryz.ntmps245
 go_wp2_with fail;go_ret;exact ⟨rfl,0,_,by rw [alloc_eq_grow];rfl⟩
theorem Lm (x y:Fa) (kb:Nat) (W:World) (hk:W.cell? ⟨kb,0,none⟩=some (.func (.func 245) #[] #[])) :
    Calls Tryz.prog 291 #[.agg #[.string x.1,.int .i64 x.2],.agg #[.string y.1,.int .i64 y.2],.pointer (some ⟨kb,0,none⟩)] W fun e w' => e=.returned (.int .i64 (cS x.1 y.1))∧∃ q os',w'=grow (W.drewN q) os':=by
 have mixed:Tryz.prog.follows .mixedOrders=true:=by kernel_rfl
 have K1:=Hy xI;have hcon:=Hy (fun W' => LM x.1 y.1 W');generalize cS x.1 y.1=r at hcon ⊢;have hkl:=block_lt_of_cell hk
 go_enter Tryz.func291,Tryz.ntmps291
 go_wp2_with fail;have B1:=(Bw.new W x 82).past (.cells #[.string y.1,.int .i64 y.2] 82);have B2:=Bw.new (W.alloc (.cells #[.string x.1,.int .i64 x.2] 82)) y 82;rw [asz] at B2;have hk2:=iI (.cells #[.string y.1,.int .i64 y.2] 82) (iI (.cells #[.string x.1,.int .i64 x.2] 82) hk);have hz:((W.alloc (.cells #[.string x.1,.int .i64 x.2] 82)).alloc (.cells #[.string y.1,.int .i64 y.2] 82)).heap.size=W.heap.size+2:=by simp
 have hW:=Mx W (.cells #[.string x.1,.int .i64 x.2] 82) (.cells #[.string y.1,.int .i64 y.2] 82);generalize hW2:(W.alloc (.cells #[.string x.1,.int .i64 x.2] 82)).alloc (.cells #[.string y.1,.int .i64 y.2] 82)=W2 at *;have k0:∀ n os,(grow (W2.drewN n) os).cell? ⟨kb,0,none⟩=_:=cell_grown (by show kb<_;omega) hk2;have x0:∀ n os,(grow (W2.drewN n) os).cell? ⟨W.heap.size,0,none⟩=_:=cell_grown (by show W.heap.size<_;omega) B1.c0;have x1:∀ n os,(grow (W2.drewN n) os).cell? ⟨W.heap.size,1,none⟩=_:=cell_grown (by show W.heap.size<_;omega) B1.c1;have y0:∀ n os,(grow (W2.drewN n) os).cell? ⟨W.heap.size+1,0,none⟩=_:=cell_grown (by show W.heap.size+1<_;omega) B2.c0;have y1:∀ n os,(grow (W2.drewN n) os).cell? ⟨W.heap.size+1,1,none⟩=_:=cell_grown (by show W.heap.size+1<_;omega) B2.c1;clear B1 B2 hk2 hz hk hW2 hkl;generalize W.heap.size=g at *
 go_quiet_grown (first | (go_at_call 245;first | exact Calls.grown_of (K1.o x _) | exact Calls.grown_of (K1.o y _)) | (go_at_call 292;exact Calls.grown_of ((hcon.o _).mono fun e w' h=>⟨h.1,0,#[],h.2.trans (JE _).symm⟩)))
 go_wp2_with fail;go_ret;refine ⟨rfl,?_⟩;obtain ⟨os,rfl⟩:=hW;exact ⟨nq,os++osq,by rw [← grow_grow];rfl⟩
def pE (l:List Fa):Prop:=l.Pairwise fun x y=>ltS y.1 x.1=false
theorem nC (blk off size kb:Nat) (w:World) (hk:w.cell? ⟨kb,0,none⟩=some (.func (.func 245) #[] #[])) (hne:kb≠blk) :
    CmpLays Tryz.prog 291 #[.pointer (some ⟨kb,0,none⟩)] enF 2 (fun x y=>cS x.1 y.1) blk off size w:=by
 intro m os dk _ x y;refine Lm x y kb _ ?_;have hl:=block_lt_of_cell hk;have hkl:kb<w.heap.size:=hl;unfold sortWorldK;rw [cell?_grow _ _ _ (by show kb<_;simpa [putRowK,putRow,mapBlock,Sort.ahead] using hkl),cell?_putRowK_other enF 2 _ _ _ _ _ hne];exact hk
theorem sF {w:World} {g n:Nat} {os:Array Obj} (d:Array Value):w.grownBy (grow (putRow id (Sort.ahead w n) g 0 d) os) (some g):=by
 refine ⟨rfl,rfl,rfl,by simp,fun k hk hne=>?_⟩;rw [heap_grow_old _ _ (by simpa using hk)];have:g≠k:=fun e=>hne (by rw [e]);simp [putRow,mapBlock,Sort.ahead,Array.getElem?_modify,this]
theorem mH {w:World} {g:Nat} {l:List Fa} (h:Cl w g 0 l) (hf:∀ j,j<l.length→w.frozen? ⟨g,j * 2,none⟩=false∧w.frozen? ⟨g,j * 2+1,none⟩=false):HoldsK enF 2 w g 0 l.toArray:=by
 intro j hj;have hj':j<l.length * 2:=by simpa using hj
 have hd:j / 2<l.length:=by omega
 obtain ⟨c0,c1⟩:=h (j / 2) hd;obtain ⟨f0,f1⟩:=hf (j / 2) hd;rw [get_flatK enF 2 _ _ (by simpa using hj')];have e1:l.toArray[j / 2]! = gt l (j / 2):=by
  rw [dY hd];simp [hd]
 rw [e1];rcases Nat.mod_two_eq_zero_or_one j with hm | hm
 ·have:j / 2 * 2=j:=by omega
  rw [this] at c0 f0;rw [hm];exact ⟨c0,by rw [Nat.zero_add];exact f0⟩
 have:j / 2 * 2+1=j:=by omega
 rw [Nat.add_assoc,this] at c1;rw [this] at f1;rw [hm];exact ⟨c1,by rw [Nat.zero_add];exact f1⟩
theorem ug {w:World} {g:Nat} {d:Array Fa} (h:HoldsK enF 2 w g 0 d):Cl w g 0 d.toList:=by
 intro j hj;have hj':j<d.size:=by simpa using hj
 have e1:d[j]! = gt d.toList j:=by
  rw [dY hj];simp [hj']
 have h0:=(h.cell (c:=0) hj' (by decide)).1;have h1:=(h.cell (c:=1) hj' (by decide)).1;rw [e1] at h0 h1;exact ⟨h0,h1⟩
theorem NA {w:World} {g n:Nat} {os:Array Obj} {cur:Array Value} {T:TypeId} {fr:Nat × Nat} (d:Array Value) (h:w.heap[g]? = some (.cells cur T fr)):∃ cs fr',(grow (putRow id (Sort.ahead w n) g 0 d) os).heap[g]? = some (.cells cs T fr'):=by
 have hg:g<w.heap.size:=by
  rcases Nat.lt_or_ge g w.heap.size with h' | h'
  ·exact h'
  rw [Array.getElem?_eq_none h'] at h;cases h
 rw [heap_grow_old _ _ (by simpa using hg)];simp [putRow,mapBlock,Sort.ahead,Array.getElem?_modify,h];exact ⟨_,_,_,rfl⟩
theorem zZ (base:Nat) (v:Value) (l:List Fa) (kb:Nat) (w:World) (hO:Own w base v l) (hn:l.length<5864062014805) (hb:base≤w.heap.size) (hk:w.cell? ⟨kb,0,none⟩=some (.func (.func 245) #[] #[])) (hkn:∀ g,v.ownBlock=some g→kb≠g) :
    Calls Tryz.prog 290 #[v,.func (.func 291) #[] #[.pointer (some ⟨kb,0,none⟩)]] w fun e w' => e=.returned (.tuple #[])∧∃ a cap s,v=.slice a l.length cap∧s.Perm l∧pE s∧Sl w' a l.length cap s∧(∀ x,a=some x→base≤x.block∧∃ cs fr,w'.heap[x.block]? = some (.cells cs 82 fr))∧Below base w w':=by
 rcases hO.o with ⟨rfl,rfl⟩ | ⟨g,cap,rfl,hbg,hg,hc,hm,hC,hF⟩
 ·have hS:=AnyF.slices_SortFunc_none (P:=Tryz.prog) (ρ:=Tryz.sortFa_ren) { Tryz.sortFa with } none 0 (.func (.func 291) #[] #[.pointer (some ⟨kb,0,none⟩)]) w;refine (show Calls Tryz.prog 290 _ _ _ from hS).mono ?_;rintro e w' ⟨rfl,rfl⟩;exact ⟨rfl,none,0,[],rfl,List.Perm.refl _,by simp [pE],.nil _,fun x h=>(by cases h),Below.refl _ _⟩
 have eg:∀ args w,(callFunc 291 args).run Tryz.prog w=.ok (.enter 291 args) w:=enters_of Tryz.func291 (by kernel_rfl) rfl;have hkg:kb≠g:=hkn g rfl;obtain ⟨cur0,htag⟩:∃ cur0,w.heap[g]? = some (.cells cur0 82 (0,0)):=by
  rcases hO.2 with ⟨h0,_⟩ | ⟨g',cap',cur,e',_,hh,_⟩
  ·cases h0
  cases e';exact ⟨cur,hh⟩
 have hcon:=AnyQ.slices_SortFunc Tryz.sortFa 2 Tryz.isAgg82 Tryz.sizeOf82 enF (fun _=>rfl) (fun x v hv=>by simp [enF] at hv;rcases hv with rfl | rfl <;> rfl) (fun x y=>cS x.1 y.1) Nj 291 #[.pointer (some ⟨kb,0,none⟩)] g 0 cap l.toArray w eg (nC g 0 _ kb w hk hkg) (mH hC hF) hg (by simp;omega);simp only [List.size_toArray] at hcon;refine (show Calls Tryz.prog 290 _ _ _ from hcon).mono ?_;rintro e w' ⟨rfl,d',n,os,hp,hs,rfl⟩;have hsz:d'.size=l.length:=by have:=hp.1;simpa using this
 have hpl:d'.toList.Perm l:=by
  have:=hp.2.2;simp only [← hsz,Array.extract_size] at this;simpa [hsz] using this
 have hH:HoldsK enF 2 (sortWorldK enF 2 w g 0 n d' os) g 0 d':=holdsK_grow enF 2 _ os g 0 d' (by unfold putRowK;simpa using hg) (holdsK_putRowK enF 2 (Sort.ahead w n) g 0 l.toArray d' (holdsK_ahead enF 2 w n g 0 _ (mH hC hF)) (by simpa using hsz));refine ⟨rfl,_,cap,d'.toList,rfl,hpl,?_,⟨.inr ⟨g,0,rfl,ug hH⟩,by simpa using hsz,Nat.zero_le _,by omega,trivial⟩,fun x h=>(by cases h;exact ⟨hbg,NA _ htag⟩),(Below.refl base w).grown (sF _) hb (fun k hk=>by cases hk;exact hbg)⟩;unfold pE;rw [List.pairwise_iff_getElem];intro i j hi hj hij;have h1:=hs i j zl hij (by rw [← hsz];simpa using hj);rw [vw] at h1;simp at hi hj;simp [hi,hj] at h1;simpa using h1
end un
namespace un
open Go.RowKit dec
open Go.Maps (Keyed)
theorem xJ:Tryz.prog.underlying 244=some (.map 9 221):=by kernel_rfl
theorem K9:Keyed Tryz.prog 9:=Go.Maps.string_keyed Tryz.underlying9
def je {H:Type} : Value→Option (DataW H × List MemPlace)
 | .agg cs=>match cs.toList with
  | [.int .i64 h,.int .u64 l]=>some (.agg [.lit (.int .i64 h),.lit (.int .u64 l)],[])
  | _=>none
 | _=>none
def dW (n:Int):DataW Unit:=.agg [.lit (.int .i64 (hi n)),.lit (.int .u64 (lo n))]
theorem zJ (n:Int):je (W n)=some (dW n,[]):=rfl
theorem yw {v:Value} {y:DataW Unit × List MemPlace} (h:je v=some y):∃ c:Int × Int,v=.agg #[.int .i64 c.1,.int .u64 c.2]∧y=(.agg [.lit (.int .i64 c.1),.lit (.int .u64 c.2)],[]):=by
 unfold je at h;split at h
 ·rename_i cs;split at h
  ·rename_i hh ll e;refine ⟨(hh,ll),?_,?_⟩
   ·have:cs=#[.int .i64 hh,.int .u64 ll]:=by
     apply Array.ext';exact e
    rw [this]
   exact (Option.some.inj h).symm
  cases h
 cases h
theorem zK {v:Value} {n:Int} {ps:List MemPlace} (h:je v=some (dW n,ps)):v=W n:=by
 obtain ⟨c,rfl,e⟩:=yw h;unfold dW at e;simp at e;rw [← e.1.1,← e.1.2];rfl
def kS (s:ByteArray):Lit:=.string s.data.toList
theorem AZ {a b:ByteArray} (h:kS a=kS b):a=b:=by
 unfold kS at h;injection h with h
 have:=Array.toList_inj.1 h;cases a;cases b
 simp_all
theorem vE {s:ByteArray} (h:s.size≤maxLen):keyOf Tryz.prog 9 (.string s)=some (kS s):=Go.WideMaps.keyOf_string_mk Tryz.underlying9 h
theorem AY {s:ByteArray} (h:s.size≤maxLen):WideAt.IsKeyLit (kS s):=K9.key (vE h)
structure Says (l:List Fa) (D:DataW Unit):Prop where
 isM:Maps.IsMap D
 at_:∀ s,D.atKey (kS s) (dW 0)=dW (ex l s)
 has:∀ s,Maps.has D (kS s)=l.any fun x=>decide (x.1=s)
theorem Says.nil:Says [] (.map []):=⟨⟨[],rfl⟩,fun _=>rfl,fun _=>rfl⟩
theorem Fg (l:List Fa) (x:Fa) (n:ByteArray):ex (l++[x]) n=ex l n+(if x.1=n then x.2 else 0):=by
 rw [yQ];simp [ex]
theorem Says.put {l:List Fa} {D:DataW Unit} (h:Says l D) (x:Fa) (hx:x.1.size≤maxLen):Says (l++[x]) (D.put (kS x.1) (dW (ex l x.1+x.2))):=by
 refine ⟨h.isM.put _ _,fun s=>?_,fun s=>?_⟩
 ·by_cases e:s=x.1
  ·subst e;rw [Maps.atKey_put_same h.isM (AY hx),Fg,if_pos rfl]
  rw [Maps.atKey_put_other (fun e' => e (AZ e')),h.at_,Fg,if_neg (fun e' => e e'.symm),Int.add_zero]
 rw [List.any_append];by_cases e:s=x.1
 ·subst e;rw [Maps.has_put_same h.isM (AY hx)];simp
 rw [Maps.has_put_other (fun e' => e (AZ e')),h.has];have hne:decide (x.1=s)=false:=dF fun e' => e e'.symm;rw [List.any_cons,hne,List.any_nil,Bool.or_false,Bool.or_false]
def Mp (w:World) (b:Nat) (l:List Fa):Prop:=∃ D:DataW Unit,w.ownsMap Tryz.prog 9 je b l.length D∧Says l D
theorem Mp.made (w:World):Mp (w.alloc (.map #[] 0)) w.heap.size []:=⟨_,World.ownsMap_made w _ _ _,Says.nil⟩
theorem Mp.lt {w:World} {b:Nat} {l:List Fa} (h:Mp w b l):b<w.heap.size:=by obtain ⟨D,h,_⟩:=h;exact h.lt
theorem Mp.grown {w w':World} {b:Nat} {l:List Fa} {row:Option Nat} (h:Mp w b l) (hg:w.grownBy w' row) (hne:some b≠row):Mp w' b l:=by
 obtain ⟨D,h,s⟩:=h;exact ⟨D,h.kept hg hne,s⟩
theorem iJ {w w':World} (h:Below w.heap.size w w'):w.grownBy w' none:=⟨h.os,h.tape,h.output,h.size,fun i hi _=>h.block i hi⟩
theorem Mp.keeps {w w':World} {b:Nat} {l:List Fa} (h:Mp w b l) (hb:Below w.heap.size w w'):Mp w' b l:=h.grown (iJ hb) (by simp)
theorem RL (w:World):(zeroValue 221).run Tryz.prog w=.ok (W 0) w:=by
 rw [← Kz];exact Tryz.zeroValue221 w
theorem Mp.look {w:World} {b:Nat} {l:List Fa} (h:Mp w b l) (s:ByteArray) (hs:s.size≤maxLen) :
    (Instr.lookup 244 (.map (some b)) (.string s) false).run Tryz.prog w=.ok (W (ex l s)) w:=by
 obtain ⟨D,h,hS⟩:=h;obtain ⟨v,ps,hrun,hv⟩:=h.lookup K9 xJ (RL w) (zJ 0) (vE hs);rw [hS.at_] at hv;rw [hrun,zK hv]
theorem Mp.store {w:World} {b:Nat} {l:List Fa} (h:Mp w b l) (x:Fa) (hs:x.1.size≤maxLen) (hl:l.length<maxLen) :
    ∃ w',(Instr.mapUpdate 244 (.map (some b)) (.string x.1) (W (ex l x.1+x.2))).run Tryz.prog w=.ok () w'∧Mp w' b (l++[x])∧w.grownBy w' (some b):=by
 obtain ⟨D,h,hS⟩:=h;obtain ⟨w',hrun,hown,hg⟩:=h.update K9 xJ hl (vE hs) (zJ (ex l x.1+x.2));exact ⟨w',hrun,⟨_,by rw [List.length_append];exact hown,hS.put x hs⟩,hg⟩
theorem zG {w:World} {o:Oper} {a:Act} {K:Act→World→Prop} {Q:Exit→Act→World→Prop} (m x v:Operand) (hop:o.op=Op.mapUpdate 244 m x v) (b:Nat) (l:List Fa) (hm:a.eval m=.map (some b)) (h:Mp w b l)
    (y:Fa) (hx:a.eval x=.string y.1) (hv:a.eval v=W (ex l y.1+y.2)) (hs:y.1.size≤maxLen) (hl:l.length<maxLen)
    (hK:∀ w',Mp w' b (l++[y])→w.grownBy w' (some b)→K (a.put o.dst undef) w'):o.wp Tryz.prog a w K Q:=by
 obtain ⟨w',hrun,h1,h2⟩:=h.store y hs hl;unfold Oper.wp;simp [execOp,hop,hm,hx,hv,hrun,Result.andThen];exact hK w' h1 h2
theorem GI {w w':World} {b k o:Nat} {v:Value} (h:w.grownBy w' (some b)) (hne:k≠b) (hc:w.cell? ⟨k,o,none⟩=some v):w'.cell? ⟨k,o,none⟩=some v:=by
 have hl:k<w.heap.size:=block_lt_of_cell hc;have hb:=h.block k hl (by simpa using hne);unfold World.cell? at hc ⊢;rw [hb];exact hc
end un
namespace un
open Go.RowKit dec
structure Pk (l:List Fa) (left:Lit→Bool) (o:List Fa):Prop where
 mem:∀ x,x ∈ o↔x ∈ nz l∧left (kS x.1)=false
 nd:o.Nodup
 ok:∀ s,(∃ y ∈ l,y.1=s)→left (kS s)=false→far (ex l s)=false
theorem nP {s:ByteArray} (hs:s.size≤maxLen) (t:ByteArray):(kS t).sameKey (kS s)=decide (t=s):=by
 by_cases e:t=s
 ·subst e;rw [dT rfl];exact WideAt.sameKey_self (AY hs)
 rw [dF e];exact Maps.sameKey_ne fun h=>e (AZ h)
theorem Pk.start {l:List Fa} {D:DataW Unit} (h:Says l D):Pk l (Maps.has D) []:=by
 have hh:∀ s,(∃ y ∈ l,y.1=s)→Maps.has D (kS s)=true:=fun s hs=>by
  rw [h.has,List.any_eq_true];obtain ⟨y,hy,e⟩:=hs;exact ⟨y,hy,dT e⟩
 refine ⟨fun x=>⟨fun hx=>(by cases hx),fun ⟨h1,h2⟩=>?_⟩,.nil,fun s hs h2=>?_⟩
 ·obtain ⟨a,b⟩:=jX.1 h1;rw [hh x.1 (qL (a ▸ b))] at h2;cases h2
 rw [hh s hs] at h2;cases h2
theorem Pk.skip {l:List Fa} {left:Lit→Bool} {o:List Fa} (h:Pk l left o) {s:ByteArray} (hs:s.size≤maxLen) (hf:far (ex l s)=false) (h0:ex l s=0):Pk l (fun z=>left z && !z.sameKey (kS s)) o:=by
 refine ⟨fun x=>?_,h.nd,fun t ht h2=>?_⟩
 ·rw [h.mem];constructor
  ·rintro ⟨a,b⟩;exact ⟨a,by rw [b];rfl⟩
  rintro ⟨a,b⟩;refine ⟨a,?_⟩;rw [nP hs] at b;by_cases e:x.1=s
  ·exfalso;obtain ⟨p,q⟩:=jX.1 a;rw [e,h0] at p;exact q p
  rw [dF e,Bool.not_false,Bool.and_true] at b;exact b
 rw [nP hs] at h2;by_cases e:t=s
 ·rw [e];exact hf
 rw [dF e,Bool.not_false,Bool.and_true] at h2;exact h.ok t ht h2
theorem Pk.push {l:List Fa} {left:Lit→Bool} {o:List Fa} (h:Pk l left o) {s:ByteArray} (hs:s.size≤maxLen) (hl:left (kS s)=true) (hf:far (ex l s)=false) (h0:ex l s≠0):Pk l (fun z=>left z && !z.sameKey (kS s)) (o++[(s,ex l s)]):=by
 refine ⟨fun x=>?_,?_,fun t ht h2=>?_⟩
 ·rw [List.mem_append,List.mem_singleton,h.mem];constructor
  ·rintro (⟨a,b⟩ | rfl)
   ·exact ⟨a,by rw [b];rfl⟩
   exact ⟨jX.2 ⟨rfl,h0⟩,by rw [nP hs,dT rfl];simp⟩
  rintro ⟨a,b⟩;rw [nP hs] at b;by_cases e:x.1=s
  ·refine .inr (Prod.ext e ?_);rw [(jX.1 a).1,e]
  rw [dF e,Bool.not_false,Bool.and_true] at b;exact .inl ⟨a,b⟩
 ·rw [List.nodup_append];refine ⟨h.nd,by simp,fun a ha b hb e=>?_⟩;rw [List.mem_singleton] at hb;subst e;have:=((h.mem a).1 ha).2;rw [hb] at this;rw [hl] at this;cases this
 rw [nP hs] at h2;by_cases e:t=s
 ·rw [e];exact hf
 rw [dF e,Bool.not_false,Bool.and_true] at h2;exact h.ok t ht h2
theorem zY {l:List Fa} (h:Srt l):l.Pairwise fun x y=>x.1≠y.1:=h.imp fun h=>qE h
theorem Pk.done {l:List Fa} {left:Lit→Bool} {o s:List Fa} (h:Pk l left o) (hl:∀ z,left z=false) (hp:s.Perm o) (hs:pE s):s=nz l:=by
 have hm:∀ x,x ∈ s↔x ∈ nz l:=fun x=>by
  rw [hp.mem_iff,h.mem,hl];simp
 have hn:s.Nodup:=hp.nodup_iff.2 h.nd;have hne:s.Pairwise fun x y=>x.1≠y.1:=hn.imp_of_mem fun {a b} ha hb hab e=>by
  have e1:=(jX.1 ((hm a).1 ha)).1;have e2:=(jX.1 ((hm b).1 hb)).1;exact hab (Prod.ext e (by rw [e1,e2,e]))
 have hS:Srt s:=hs.imp₂ (fun a b h1 h2=>xA h1 (fun e=>h2 e.symm)) hne;exact DT (hS.imp fun h=>h) (uN l) hm
theorem Pk.len {l:List Fa} {left:Lit→Bool} {o:List Fa} (h:Pk l left o) (hl:∀ z,left z=false):o.length=(nz l).length:=by
 have hn:(nz l).Nodup:=(zY (uN l)).imp fun h e=>h (by rw [e]);refine ((List.perm_ext_iff_of_nodup h.nd hn).2 fun x=>?_).length_eq;rw [h.mem,hl];simp
theorem Ov {x:Int} (h:rg x=false):far x=true:=by
 rw [zo] at h;unfold far;exact dT (by omega)
theorem Pk.all {l:List Fa} {left:Lit→Bool} {o:List Fa} (h:Pk l left o) (hl:∀ z,left z=false):mQ l=false:=by
 cases hf:mQ l
 ·rfl
 obtain ⟨n,hn⟩:=(pq l).1 hf;rw [h.ok n (qL fun e=>by rw [e] at hn;cases hn) (hl _)] at hn;cases hn
theorem BI:∀ (l:List Fa) (s:ByteArray),(∀ x ∈ l,-9223372036854775808≤x.2∧x.2≤9223372036854775807)→-9223372036854775808 * (l.length:Int)≤ex l s∧ex l s≤9223372036854775808 * (l.length:Int)
 | [],s,_=>by simp [ex]
 | x :: l,s,h=>by
  have ih:=BI l s fun y hy=>h y (List.mem_cons_of_mem _ hy)
  have hx:=h x (List.mem_cons_self ..)
  simp only [ex,List.length_cons]
  push_cast
  split <;> omega
theorem TG {l:List Fa} (s:ByteArray) (h:∀ x ∈ l,-9223372036854775808≤x.2∧x.2≤9223372036854775807) (hl:l.length<5864062014805):In (ex l s):=by
 have:=BI l s h;unfold In;omega
theorem EG {key:Value} {kl:Lit} (h:keyOf Tryz.prog 9 key=some kl):∃ s:ByteArray,key=.string s∧kl=kS s∧s.size≤maxLen:=by
 cases key <;> simp [keyOf,Tryz.underlying9,mapKey] at h;rename_i s;obtain ⟨h1,h2⟩:=h;exact ⟨s,rfl,h2.symm,h1⟩
theorem uw (w:World) {ops:Array Oper} {rest:List Oper} {o:Oper} {a:Act} {Q:Exit→Act→World→Prop} (hg:o.guard=none) (it:Operand) (hop:o.op=Op.next it false) (b r n:Nat) (D:DataW Unit) (l:List Fa) (hS:Says l D) (left:Lit→Bool) (cnt:Nat)
  (hit:a.eval it=.pointer (some ⟨r,0,none⟩)) (h:w.ranges Tryz.prog 9 je b r n D left cnt)
  (hDone:cnt=0→(∀ kl,left kl=false)→wpList Tryz.prog ops Q rest (a.put o.dst (.tuple #[.bool false])) w)
  (hMore:∀ (s:ByteArray) (w':World) (cnt':Nat),s.size≤maxLen→left (kS s)=true→w'.ranges Tryz.prog 9 je b r n D (fun z=>left z && !z.sameKey (kS s)) cnt'→cnt'<cnt→w.grownBy w' (some r)→w'.heap.size=w.heap.size →
   (Instr.entry (.pointer (some ⟨r,0,none⟩))).run Tryz.prog w'=.ok (.tuple #[.string s,.agg #[.int .i64 (hi (ex l s)),.int .u64 (lo (ex l s))]]) w'→wpList Tryz.prog ops Q rest (a.put o.dst (.tuple #[.bool true,.string s,.agg #[.int .i64 (hi (ex l s)),.int .u64 (lo (ex l s))]])) w') :
  wpList Tryz.prog ops Q (o :: rest) a w :=
 wpList_next_ranges w hg it hop 9 K9 je (fun s:ByteArray=>Value.string s) (fun c:Int × Int=>.agg #[.int .i64 c.1,.int .u64 c.2])
  (fun key kl hk=>by obtain ⟨s,e,_⟩:=EG hk;exact ⟨s,e⟩) (fun v y hv=>by obtain ⟨c,e,_⟩:=yw hv;exact ⟨c,e⟩) b r n D left cnt hit h hDone
  (fun x c kl y w' cnt' hkey hlk hv hat hrg hlt hgr hsz hen=>by
   obtain ⟨s,e,rfl,hs⟩:=EG hkey
   obtain rfl:x=s:=by injection e
   obtain ⟨yd,yp⟩:=y
   have hy:=hat (dW 0)
   rw [hS.at_] at hy
   have hy':yd=dW (ex l x):=hy.symm
   subst hy'
   have hc:=zK hv
   have:(.agg #[.int .i64 c.1,.int .u64 c.2]:Value)=.agg #[.int .i64 (hi (ex l x)),.int .u64 (lo (ex l x))]:=hc
   rw [this] at hen
   have:=hMore x w' cnt' hs hlk hrg hlt hgr hsz hen
   rw [show (.agg #[.int .i64 c.1,.int .u64 c.2]:Value)=.agg #[.int .i64 (hi (ex l x)),.int .u64 (lo (ex l x))] from hc]
   exact this)
theorem jV {w w':World} {b r n:Nat} {D:DataW Unit} {left:Lit→Bool} {cnt:Nat} (h:w.ranges Tryz.prog 9 je b r n D left cnt) (hb:Below w.heap.size w w'):w'.ranges Tryz.prog 9 je b r n D left cnt:=h.kept (iJ hb) (by simp) (by simp)
theorem Cu {w w':World} {b r n base:Nat} {D:DataW Unit} {left:Lit→Bool} {cnt:Nat} (h:w.ranges Tryz.prog 9 je b r n D left cnt) (hb:Below base w w') (h1:b<base) (h2:r<base):w'.ranges Tryz.prog 9 je b r n D left cnt:=by
 obtain ⟨es,clock,since,seen,c0,k1,F,hs,hD,hr,rest⟩:=h;exact ⟨es,clock,since,seen,c0,(hb.block b h1).trans k1,F,hs,hD,(hb.block r h2).trans hr,rest⟩
end un
namespace dec
open Go.RowKit
theorem TU (x y:Int) (hx:0≤x) (hy:0≤y) (w:World):(callFunc 285 #[.int .u64 x,.int .u64 y,.int .u64 0]).run Tryz.prog w =
    .ok (.value (.tuple #[.int .u64 ((x+y) % 18446744073709551616),.int .u64 ((x+y) / 18446744073709551616)])) w:=by
 rw [run_callFunc_extern Tryz.func285 (by kernel_rfl) (by kernel_rfl) (by kernel_rfl) (e:=add64Entry) (by kernel_rfl),run_add64 x y 0 hx hy (Int.le_refl 0) (by decide)];simp only [Result.andThen,Int.add_zero]
theorem OY {x y:Value} {a b:Int} (hx:x=W a) (hy:y=W b) (w:World) :
    Calls Tryz.prog 241 #[x,y] w fun e w' => e=.returned (W (a+b))∧∃ c1 c2 c3:Array Value,w'=((w.alloc (.cells c1 221)).alloc (.cells c2 221)).alloc (.cells c3 221):=by
 subst hx hy;have ra:=ku a;have rb:=ku b;have ha:=mI a;have hb:=mI b;have k0:0≤(lo a+lo b) / 18446744073709551616:=by omega
 have k1:(lo a+lo b) / 18446744073709551616≤1:=by omega
 obtain ⟨ra1,ra2⟩:=ra;obtain ⟨rb1,rb2⟩:=rb;obtain ⟨ha1,ha2⟩:=ha;obtain ⟨hb1,hb2⟩:=hb;unfold W
 go_enter Tryz.func241,Tryz.ntmps241
 go_wp2_with (simp only [TU (lo a) (lo b) ra1 rb1]);simp [bodyPost,results,Tryz.results241,go_sem];exact ⟨⟨RJ a b,RI a b⟩,_,_,_,rfl⟩
theorem TS {x y:Value} {a b:Int} (hx:x=W a) (hy:y=W b) (w:World) :
  Calls Tryz.prog 241 #[x,y] w fun e w' => e=.returned (W (a+b))∧Below w.heap.size w w' :=
 (OY hx hy w).mono fun _ _ ⟨he,_,_,_,hw⟩=>⟨he,hw ▸ au (au (au (b0 w) _) _) _⟩
end dec
end Go.Proofs.YtbahfelnbofjjaaGreatDoor
