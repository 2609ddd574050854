/- The parser's methods that read a name or a. -/
import Derived.Shelf.SlSortCmp.QuietGrown
import Derived.Maps.RangeWalk
import Derived.Sort.EncStr
import Derived.StringKeys
import Derived.Test.YtbahfelnbofjjaaGreatDoorH19
import Derived.Test.YtbahfelnbofjjaaGreatDoorSwH
set_option maxRecDepth 100000
set_option maxHeartbeats 16000000
namespace Go.Proofs.YtbahfelnbofjjaaGreatDoor
namespace pa
open Go.RowKit dec
theorem aB {α β:Type} (v:α) (l:List Tk) (g:α→List Tk→Rs β):(Rs.ok v l).bind g=g v l:=rfl
theorem bno {α β:Type} {x:Rs α} {f:α→List Tk→Rs β} {r:Rs β} {a c:Int} {l:List Tk} (h:Go.RowKit.Hid (x.bind f=r)) (e:x=.no a c l):Go.RowKit.Hid (r=.no a c l):=by
 have h:=h.o;rw [e] at h;exact h.symm
theorem bok {α β:Type} {x:Rs α} {f:α→List Tk→Rs β} {r:Rs β} {v:α} {l:List Tk} (h:Go.RowKit.Hid (x.bind f=r)) (e:x=.ok v l):Go.RowKit.Hid (f v l=r):=by
 have h:=h.out
 rw [e] at h
 exact h
theorem bou {α β:Type} {x:Rs α} {f:α→List Tk→Rs β} {r:Rs β} {P:Prop} (h:Go.RowKit.Hid (x.bind f=r)) (e:x=.out) (n:Go.RowKit.Hid (r≠.out)):P:=by
  have h:=h.o
  rw [e] at h
  exact absurd h.symm n.o
theorem j4 {α:Type} (x:Rs α):(x.bind fun v r=>.ok v r)=x:=by cases x <;> rfl
theorem tV {k:Int} {l r:List Tk} {v:ByteArray} (h:Tl l) (hk:tak k l=.ok v r):v.size≤1048576:=by
 unfold tak at hk;split at hk
 ·cases hk;exact h.hd
 cases hk
theorem mZ (B:Nat) (l:List Tk) (w:World) (h:Ps w B l) (r:Rs ByteArray) (hr:nam l=r) (hne:r≠.out) :
    Calls Tryz.prog 130 #[.pointer (some ⟨B,0,none⟩)] w (Pst B Sv r w):=by
 have P:=Hy h;have M:=Hy (Mv.refl w.heap.size B w);have NE:=Hy hne;unfold nam at hr;have HR:=Hy hr;clear h hne hr;have C1:=Hy (gH B l w P.o);have C2:=Hy (fun W=>Go.Proofs.YtbahfelnbofjjaaGreatDoor.Ms (hd l).t P.o.tl.hd W);have C4:=Hy (fun W=>jU B l W);have F1:=tf1;have F2:=jv;replace HR:=HR.o;cases hn:Go.Proofs.YtbahfelnbofjjaaGreatDoor.name (hd l).t
 ·rw [hn] at C2;rw [hn,if_neg (by decide)] at HR;unfold wrg at HR;replace HR:=Hy HR;clear hn;generalize hd l=x at *;obtain ⟨xk,xt,xa⟩:=x;simp only at C1 C2 C4
  go_enter Tryz.func130,Tryz.ntmps130
  go_wp2_with fail;refine (C1.o).mono ?_;rintro e w1 ⟨rfl,b⟩;have mm:=Mv.of (B:=B) b;replace M:=Hy (M.o.next mm);replace P:=Hy (P.o.keeps b);clear mm b;go_wp2_with fail;refine (C2.o w1 P.o.tabs).mono ?_;rintro e w2 ⟨rfl,b⟩;have mm:=Mv.of (B:=B) b;replace M:=Hy (M.o.next mm);replace P:=Hy (P.o.keeps b);clear mm b;go_wp2_with fail;refine (C4.o w2 P.o).mono ?_;rintro e w3 ⟨rfl,b⟩;have mm:=Mv.of (B:=B) b;replace M:=Hy (M.o.next mm);replace P:=Hy (P.o.keeps b);clear mm b;go_wp2_with fail;exact ⟨rfl,aD HR.o.symm P.o M.o⟩
 rw [hn] at C2;rw [hn,if_pos rfl,← j4 (tak 1 l)] at HR;replace HR:=Hy HR;clear hn C4;generalize hd l=x at *;obtain ⟨xk,xt,xa⟩:=x;simp only at C1 C2
 go_enter Tryz.func130,Tryz.ntmps130
 go_wp2_with fail;refine (C1.o).mono ?_;rintro e w1 ⟨rfl,b⟩;have mm:=Mv.of (B:=B) b;replace M:=Hy (M.o.next mm);replace P:=Hy (P.o.keeps b);clear mm b;go_wp2_with fail;refine (C2.o w1 P.o.tabs).mono ?_;rintro e w2 ⟨rfl,b⟩;have mm:=Mv.of (B:=B) b;replace M:=Hy (M.o.next mm);replace P:=Hy (P.o.keeps b);clear mm b;go_wp2_with fail;refine (kQ B 1 (by decide) l w2 P.o).mono ?_;rintro e w3 h3;rcases hG3:tak 1 l with _ | ⟨v3,l3⟩ | ⟨a3,c3,l3⟩
 ·exact bou HR hG3 NE
 rotate_left
 ·rw [hG3] at h3;obtain ⟨rfl,pp,mm⟩:=h3;unfold thr;have hno:=bno HR hG3;have PP:=Hy pp;have MM:=Hy (M.o.next mm);clear pp mm hG3;go_wp2_with fail;exact ⟨rfl,aD hno.o PP.o MM.o⟩
 rw [hG3] at h3;obtain ⟨u3,rfl,vv,pp,mm⟩:=h3;replace HR:=bok HR hG3;replace M:=Hy (M.o.next mm);replace P:=Hy pp;clear pp mm hG3;obtain rfl:u3=.string v3:=vv;go_wp2_with fail;go_ret;exact aO (by rw [← HR.o]) rfl P.o M.o
theorem jE (B:Nat) (s:ByteArray) (l:List Tk) (w:World) (h:Ps w B l) (r:Rs ByteArray) (hr:nma s l=r) (hne:r≠.out) :
    Calls Tryz.prog 182 #[.pointer (some ⟨B,0,none⟩),.string s] w (Pst B Sv r w):=by
 have P:=Hy h;have M:=Hy (Mv.refl w.heap.size B w);have NE:=Hy hne;unfold nma at hr
 conv at hr=>lhs;arg 2;ext _ r;rw [← j4 (nam r)]
 have HR:=Hy hr;clear h hne hr
 go_enter Tryz.func182,Tryz.ntmps182
 go_wp2_with fail;refine (aW B s l w P.o).mono ?_;rintro e w1 h1;rcases hG1:need s l with _ | ⟨v1,l1⟩ | ⟨a1,c1,l1⟩
 ·exact bou HR hG1 NE
 rotate_left
 ·rw [hG1] at h1;obtain ⟨rfl,pp,mm⟩:=h1;unfold thr;have hno:=bno HR hG1;have PP:=Hy pp;have MM:=Hy (M.o.next mm);clear pp mm hG1;go_wp2_with fail;exact ⟨rfl,aD hno.o PP.o MM.o⟩
 rw [hG1] at h1;obtain ⟨u1,rfl,vv,pp,mm⟩:=h1;replace HR:=bok HR hG1;replace M:=Hy (M.o.next mm);replace P:=Hy pp;clear pp mm hG1;obtain rfl:u1=.tuple #[]:=vv;go_wp2_with fail;refine (mZ B l1 w1 P.o _ rfl (fV _)).mono ?_;rintro e w2 h2;rcases hG2:nam l1 with _ | ⟨v2,l2⟩ | ⟨a2,c2,l2⟩
 ·exact bou HR hG2 NE
 rotate_left
 ·rw [hG2] at h2;obtain ⟨rfl,pp,mm⟩:=h2;unfold thr;have hno:=bno HR hG2;have PP:=Hy pp;have MM:=Hy (M.o.next mm);clear pp mm hG2;go_wp2_with fail;exact ⟨rfl,aD hno.o PP.o MM.o⟩
 rw [hG2] at h2;obtain ⟨u2,rfl,vv,pp,mm⟩:=h2;replace HR:=bok HR hG2;replace M:=Hy (M.o.next mm);replace P:=Hy pp;clear pp mm hG2;obtain rfl:u2=.string v2:=vv;go_wp2_with fail;go_ret;exact aO (by rw [← HR.o]) rfl P.o M.o
theorem fu (B:Nat) (l:List Tk) (w:World) (h:Ps w B l) (r:Rs Int) (hr:int l=r) (hne:r≠.out) :
    Calls Tryz.prog 185 #[.pointer (some ⟨B,0,none⟩)] w (Pst B Iv r w):=by
 have P:=Hy h;have M:=Hy (Mv.refl w.heap.size B w);have NE:=Hy hne;unfold int at hr;have HR:=Hy hr;clear h hne hr;have SZ:=Hy (fun v l1=>tV (k:=2) (l:=l) (v:=v) (r:=l1) P.o.tl)
 go_enter Tryz.func185,Tryz.ntmps185
 go_wp2_with fail;refine (kQ B 2 (by decide) l w P.o).mono ?_;rintro e w1 h1;rcases hG1:tak 2 l with _ | ⟨v1,l1⟩ | ⟨a1,c1,l1⟩
 ·exact bou HR hG1 NE
 rotate_left
 ·rw [hG1] at h1;obtain ⟨rfl,pp,mm⟩:=h1;unfold thr;have hno:=bno HR hG1;have PP:=Hy pp;have MM:=Hy (M.o.next mm);clear pp mm hG1;go_wp2_with fail;exact ⟨rfl,aD hno.o PP.o MM.o⟩
 rw [hG1] at h1;obtain ⟨u1,rfl,vv,pp,mm⟩:=h1;replace HR:=bok HR hG1;replace M:=Hy (M.o.next mm);replace P:=Hy pp;clear pp mm;replace hG1:=Hy hG1;obtain rfl:u1=.string v1:=vv;go_wp2_with fail;refine (CY v1 (SZ.o v1 l1 hG1.o) w1 P.o.tabs).mono ?_;rintro e w2 ⟨x,rfl,b⟩;have mm:=Mv.of (B:=B) b;replace M:=Hy (M.o.next mm);replace P:=Hy (P.o.keeps b);clear mm b;go_wp2_with fail;go_ret;exact aO (by rw [← HR.o]) rfl P.o M.o
theorem KY (B:Nat) (l:List Tk) (w:World) (h:Ps w B l) (r:Rs Int) (hr:nI l=r) (hne:r≠.out) :
    Calls Tryz.prog 278 #[.pointer (some ⟨B,0,none⟩)] w (Pst B Iv r w):=by
 have P:=Hy h;have M:=Hy (Mv.refl w.heap.size B w);have NE:=Hy hne;unfold nI at hr;have HR:=Hy hr;clear h hne hr;have SZ:=Hy (fun v l1=>tV (k:=3) (l:=l) (v:=v) (r:=l1) P.o.tl)
 go_enter Tryz.func278,Tryz.ntmps278
 go_wp2_with fail;refine (kQ B 3 (by decide) l w P.o).mono ?_;rintro e w1 h1;rcases hG1:tak 3 l with _ | ⟨v1,l1⟩ | ⟨a1,c1,l1⟩
 ·exact bou HR hG1 NE
 rotate_left
 ·rw [hG1] at h1;obtain ⟨rfl,pp,mm⟩:=h1;unfold thr;have hno:=bno HR hG1;have PP:=Hy pp;have MM:=Hy (M.o.next mm);clear pp mm hG1;go_wp2_with fail;exact ⟨rfl,aD hno.o PP.o MM.o⟩
 rw [hG1] at h1;obtain ⟨u1,rfl,vv,pp,mm⟩:=h1;replace HR:=bok HR hG1;replace M:=Hy (M.o.next mm);replace P:=Hy pp;clear pp mm;replace hG1:=Hy hG1;obtain rfl:u1=.string v1:=vv;go_wp2_with fail;refine (zh v1 w1 (by have:=SZ.o v1 l1 hG1.o;omega) P.o.tabs.pow).mono ?_;rintro e w2 ⟨rfl,b⟩;have mm:=Mv.of (B:=B) b;replace M:=Hy (M.o.next mm);replace P:=Hy (P.o.keeps b);clear mm b;go_wp2_with fail;go_ret;exact aO (by rw [← HR.o]) rfl P.o M.o
end pa
section
open Go.RowKit dec
theorem aN:(Tryz.prog.info? 29).map (·.size)=some 12:=by kernel_rfl
theorem aM {ops:Array Oper} {rest:List Oper} {o:Oper} {a:Act} {w:World} {Q:Exit→Act→World→Prop} (x y:Operand) (ho:o.op=.store 29 x y) (hgd:o.guard=none)
  (g:Nat) (T:TypeId) (cells old:Array Value) (hx:a.eval x=.pointer (some ⟨g,0,none⟩)) (hy:a.eval y=.agg cells) (hB:Blk w g T old) (hs:old.size=12) (hc:cells.size=12) (h1:cells.all (·.oneCell')=true)
  (h:∀ w',Blk w' g T cells→St g w w'→wpList Tryz.prog ops Q rest (a.put o.dst undef) w'):wpList Tryz.prog ops Q (o :: rest) a w :=
 wpList_store_row hgd 29 x y ho g cells hx hy T old hB (by rw [hc];exact aN) (by omega) h1 (h _ (iE hB cells) (jg w g cells))
theorem aZ {ops:Array Oper} {rest:List Oper} {o:Oper} {a:Act} {w:World} {Q:Exit→Act→World→Prop} (x:Operand) (ho:o.op=.load 29 x) (hgd:o.guard=none)
  (g:Nat) (T:TypeId) (cells:Array Value) (hx:a.eval x=.pointer (some ⟨g,0,none⟩)) (hB:Blk w g T cells) (hc:cells.size=12)
  (h:wpList Tryz.prog ops Q rest (a.put o.dst (.agg cells)) w):wpList Tryz.prog ops Q (o :: rest) a w :=
 wpList_load_row hgd 29 x ho g hx T cells (0,0) _ hB dec.uy29 rfl (by rw [hc];exact aN) h
def nU:TypeDesc→Bool
 | .struct _=>true
 | .array _ _=>true
 | _=>false
theorem aF {T:TypeId} {n:Nat} (hi:(Tryz.prog.info? T).map (·.size)=some n) {ops:Array Oper} {rest:List Oper} {o:Oper} {a:Act} {w:World} {Q:Exit→Act→World→Prop} (x y:Operand) (ho:o.op=.store T x y) (hgd:o.guard=none)
  (g:Nat) (T':TypeId) (cells old:Array Value) (hx:a.eval x=.pointer (some ⟨g,0,none⟩)) (hy:a.eval y=.agg cells) (hB:Blk w g T' old) (hs:old.size=n) (hc:cells.size=n) (h1:cells.all (·.oneCell')=true)
  (h:∀ w',Blk w' g T' cells→St g w w'→wpList Tryz.prog ops Q rest (a.put o.dst undef) w'):wpList Tryz.prog ops Q (o :: rest) a w :=
 wpList_store_row hgd T x y ho g cells hx hy T' old hB (by rw [hc];exact hi) (by omega) h1 (h _ (iE hB cells) (jg w g cells))
theorem aG {T:TypeId} {n:Nat} {d:TypeDesc} (hi:(Tryz.prog.info? T).map (·.size)=some n) (hu:Tryz.prog.underlying T=some d) (hd:nU d=true)
  {ops:Array Oper} {rest:List Oper} {o:Oper} {a:Act} {w:World} {Q:Exit→Act→World→Prop} (x:Operand) (ho:o.op=.load T x) (hgd:o.guard=none)
  (g:Nat) (T':TypeId) (cells:Array Value) (hx:a.eval x=.pointer (some ⟨g,0,none⟩)) (hB:Blk w g T' cells) (hc:cells.size=n)
  (h:wpList Tryz.prog ops Q rest (a.put o.dst (.agg cells)) w):wpList Tryz.prog ops Q (o :: rest) a w :=
 wpList_load_row hgd T x ho g hx T' cells (0,0) d hB hu (by cases d <;> first | rfl | cases hd) (by rw [hc];exact hi) h
theorem bn {T:TypeId} {n:Nat} {d:TypeDesc} (hi:(Tryz.prog.info? T).map (·.size)=some n) (hu:Tryz.prog.underlying T=some d) (hd:nU d=true)
  {fn:Func} {R:Ending→World→Prop} {p:Tmp} (h:fn.results=#[.cell p T]) (tmps:Array Value) (w:World) (g:Nat) (T':TypeId) (cells:Array Value) (hp:tmps.getD p undef=.pointer (some ⟨g,0,none⟩))
  (hB:Blk w g T' cells) (hc:cells.size=n) (hR:R (.returned (.agg cells)) w):bodyPost Tryz.prog fn R .ret ⟨tmps,[]⟩ w :=
 bodyPost_ret (results_cell_row h tmps w g T' cells (0,0) d hp hB hu (by cases d <;> first | rfl | cases hd) (by rw [hc];exact hi)) rfl hR
theorem iH (x y:Operand) {o:Oper} {a:Act} {w:World} {K:Act→World→Prop} {Q:Exit→Act→World→Prop} (ho:o.op=.store 29 x y)
  (g:Nat) (T':TypeId) (cells old:Array Value) (hx:a.eval x=.pointer (some ⟨g,0,none⟩)) (hy:a.eval y=.agg cells) (hB:Blk w g T' old) (hs:old.size=12) (hc:cells.size=12) (h1:cells.all (·.oneCell')=true)
  (h:∀ w',Blk w' g T' cells→St g w w'→K (a.put o.dst undef) w'):o.wp Tryz.prog a w K Q :=
 wp_store_row 29 x y ho g cells hx hy T' old hB (by rw [hc];exact aN) (by omega) h1 (h _ (iE hB cells) (jg w g cells))
theorem mE (x:Operand) {o:Oper} {a:Act} {w:World} {K:Act→World→Prop} {Q:Exit→Act→World→Prop} (ho:o.op=.load 29 x)
  (g:Nat) (T':TypeId) (cells:Array Value) (hx:a.eval x=.pointer (some ⟨g,0,none⟩)) (hB:Blk w g T' cells) (hc:cells.size=12)
  (h:K (a.put o.dst (.agg cells)) w):o.wp Tryz.prog a w K Q :=
 wp_load_row 29 x ho g hx T' cells (0,0) _ hB dec.uy29 rfl (by rw [hc];exact aN) h
theorem aY {T:TypeId} {n:Nat} {d:TypeDesc} (hi:(Tryz.prog.info? T).map (·.size)=some n) (hu:Tryz.prog.underlying T=some d) (hd:nU d=true) {oi:Oper} {a:Act} {w:World} (x:Operand) (ho:oi.op=.load T x)
    (g:Nat) (T':TypeId) (cells:Array Value) (hx:a.eval x=.pointer (some ⟨g,0,none⟩)) (hB:Blk w g T' cells) (hc:cells.size=n):(execOp a.eval oi).run Tryz.prog w=.ok (.value (.agg cells)) w:=by
 unfold execOp;have:=run_loadVar_row (P:=Tryz.prog) w g T' T cells (0,0) d hB hu (by cases d <;> first | rfl | cases hd) (by rw [hc];exact hi);simp only [ho,hx,Instr.loadAt,Instr.sureAddr,Sem.run_bind,Sem.run_pure,Result.andThen_ok,this]
theorem wS:(Tryz.prog.info? 108).map (·.size)=some 2:=by kernel_rfl
theorem fB:(Tryz.prog.info? 82).map (·.size)=some 2:=by kernel_rfl
theorem dx:(Tryz.prog.info? 31).map (·.size)=some 3:=by kernel_rfl
theorem jM:(Tryz.prog.info? 26).map (·.size)=some 2:=by kernel_rfl
theorem lV:(Tryz.prog.info? 88).map (·.size)=some 4:=by kernel_rfl
theorem aR (x:Ex) (ua:Option Addr) (uc:Nat) (aa:Option Addr) (ac:Nat):(exC x ua uc aa ac).all (·.oneCell')=true:=by simp [exC,Value.oneCell']
def zE:Array Value:=#[.int .i64 0,.string ⟨#[]⟩,.string ⟨#[]⟩,.string ⟨#[]⟩,.int .i64 0,.int .i64 0,.string ⟨#[]⟩,.slice none 0 0,.int .i64 0,.int .i64 0,.int .i64 0,.slice none 0 0]
theorem aS {fn:Func} {R:Ending→World→Prop} {p:Tmp} (h:fn.results=#[.cell p 29]) (tmps:Array Value) (w:World) (g:Nat) (T:TypeId) (cells:Array Value) (hp:tmps.getD p undef=.pointer (some ⟨g,0,none⟩))
  (hB:Blk w g T cells) (hc:cells.size=12) (hR:R (.returned (.agg cells)) w):bodyPost Tryz.prog fn R .ret ⟨tmps,[]⟩ w :=
 bodyPost_ret (results_cell_row h tmps w g T cells (0,0) _ hp hB dec.uy29 rfl (by rw [hc];exact aN)) rfl hR
structure Fr (w0 w:World) (B:Nat) (i:Bool) (res:Array Value):Prop where
 mv:Mv w0.heap.size B w0 w
 sc:Blk w w0.heap.size 108 #[.pointer (some ⟨B,0,none⟩),.bool i]
 rz:Blk w (w0.heap.size+1) 29 res
 hB:B<w0.heap.size
theorem Fr.start {w:World} {B:Nat} (i:Bool) (h:B<w.heap.size):Fr w ((w.alloc (.cells #[.pointer (some ⟨B,0,none⟩),.bool i] 108)).alloc (.cells zE 29)) B i zE :=
 ⟨((Mv.refl _ _ _).alloc lr _).alloc lr _,(Blk.new _ _ _).past _,by have:=Blk.new (w.alloc (.cells #[.pointer (some ⟨B,0,none⟩),.bool i] 108)) 29 zE;simpa using this,h⟩
theorem Fr.lt {w0 w:World} {B:Nat} {i:Bool} {res:Array Value} (h:Fr w0 w B i res):w0.heap.size+2≤w.heap.size:=h.rz.lt
theorem Fr.next {w0 w w':World} {B:Nat} {i:Bool} {res:Array Value} (h:Fr w0 w B i res) (M:Mv w.heap.size B w w'):Fr w0 w' B i res:=by
 have:=h.lt;have:=h.hB;exact ⟨h.mv.up M (by omega),h.sc.mv M (by omega) (by omega),h.rz.mv M (by omega) (by omega),h.hB⟩
theorem nFr {w0 w w':World} {B:Nat} {i:Bool} {res:Array Value} (h:Go.RowKit.Hid (Fr w0 w B i res)) (M:Mv w.heap.size B w w'):Go.RowKit.Hid (Fr w0 w' B i res):=Hy (h.o.next M)
theorem Fr.bG {w0 w w':World} {B:Nat} {i:Bool} {res:Array Value} (h:Fr w0 w B i res) (M:Below w.heap.size w w'):Fr w0 w' B i res:=h.next (.of M)
theorem Fr.alloc {w0 w:World} {B:Nat} {i:Bool} {res:Array Value} (h:Fr w0 w B i res) (o:Obj):Fr w0 (w.alloc o) B i res:=h.next (.of (aj (b0 w) o))
theorem Fr.st {w0 w w':World} {B:Nat} {i:Bool} {res:Array Value} {g:Nat} (h:Fr w0 w B i res) (M:St g w w') (hg:w0.heap.size+2≤g):Fr w0 w' B i res :=
 ⟨h.mv.trans (M.mv (by omega)),h.sc.st M (by omega),h.rz.st M (by omega),h.hB⟩
theorem Fr.set {w0 w w':World} {B:Nat} {i:Bool} {res cells:Array Value} (h:Fr w0 w B i res) (M:St (w0.heap.size+1) w w') (hb:Blk w' (w0.heap.size+1) 29 cells):Fr w0 w' B i cells :=
 ⟨h.mv.trans (M.mv (by omega)),h.sc.st M (by omega),hb,h.hB⟩
theorem Fr.c0 {w0 w:World} {B:Nat} {i:Bool} {res:Array Value} (h:Fr w0 w B i res):w.cell? ⟨w0.heap.size,0,none⟩=some (.pointer (some ⟨B,0,none⟩)):=h.sc.cell 0
theorem Fr.c1 {w0 w:World} {B:Nat} {i:Bool} {res:Array Value} (h:Fr w0 w B i res):w.cell? ⟨w0.heap.size,1,none⟩=some (.bool i):=h.sc.cell 1
end
namespace pa
open Go.RowKit dec
theorem Cn (B:Nat) (l:List Tk) (w:World) (h:Ps w B l) (r:Rs un.Fa) (hr:fac l=r) (hne:r≠.out) :
    Calls Tryz.prog 180 #[.pointer (some ⟨B,0,none⟩)] w (Pst B Fv r w):=by
 have b1:=aj (b0 w) (.cells #[.string ⟨#[]⟩,.int .i64 0] 82);have hlt:=Hy h.lt;have P:=Hy (h.keeps b1);have M:=Hy (Mv.of (B:=B) b1);have R:=Hy (Blk.new w 82 #[.string ⟨#[]⟩,.int .i64 0]);have NE:=Hy hne;unfold fac at hr;have HR:=Hy hr;clear h hne hr b1
 go_enter Tryz.func180,Tryz.ntmps180
 go_wp2_with fail;refine (mZ B l _ P.o _ rfl (fV _)).mono ?_;rintro e w1 h1;rcases hG1:nam l with _ | ⟨v1,l1⟩ | ⟨a1,c1,l1⟩
 ·exact absurd hG1 (fV _)
 rotate_left
 ·rw [hG1] at h1;obtain ⟨rfl,pp,mm⟩:=h1;unfold thr;have hno:=bno HR hG1;have PP:=Hy pp;have MM:=Hy (M.o.next mm);clear pp mm hG1;go_wp2_with fail;exact ⟨rfl,aD hno.o PP.o MM.o⟩
 rw [hG1] at h1;obtain ⟨u1,rfl,vv,pp,mm⟩:=h1;replace HR:=bok HR hG1;replace R:=Hy (R.o.mv mm (by have:=hlt.o;omega) (by simp));have L:=Hy (Blk.new w1 82 #[.string v1,.int .i64 1]);replace R:=Hy (R.o.past (.cells #[.string v1,.int .i64 1] 82));have b2:=aj (b0 w1) (.cells #[.string v1,.int .i64 1] 82);replace P:=Hy (pp.keeps b2);have hw1:=Hy mm.size;replace M:=Hy ((M.o.next mm).bG b2);clear pp mm hG1 b2;obtain rfl:u1=.string v1:=vv;go_wp2_with fail;have hgw:=Hy (show w.heap.size<w1.heap.size from by have:=hw1.o;simp at this;omega);clear hw1;generalize w1.alloc (.cells #[.string v1,.int .i64 1] 82)=W at *;generalize w1.heap.size=g at *;cases ht:isT ⟨#[94]⟩ l1
 ·replace HR:=Hy (show Rs.ok (v1,1) l1=r by rw [← HR.o,ht];rfl);have HT:=Hy ht;clear ht;refine (aK B ⟨#[94]⟩ l1 _ P.o HT.o).mono ?_;rintro e w2 ⟨rfl,pp,mm⟩;replace R:=Hy (R.o.mv mm (by have:=hlt.o;omega) (R.o.lt));replace L:=Hy (L.o.mv mm (by have:=hlt.o;have:=hgw.o;omega) (L.o.lt));replace P:=Hy pp;replace M:=Hy (M.o.next mm);clear pp mm HT;go_wp2_with (first | (refine aG fB dec.uy82 rfl (.tmp 3) rfl rfl _ _ _ rfl L.o rfl ?_) | (refine aF fB (.tmp 2) (.tmp 19) rfl rfl _ _ _ _ rfl rfl R.o rfl rfl (by simp [Value.oneCell']) ?_;intro w9 hb9 hs9));replace P:=Hy (P.o.st hs9 hlt.o);replace M:=Hy (M.o.trans (hs9.mv lr));refine bn fB dec.uy82 rfl rfl _ _ _ _ _ rfl hb9 rfl ?_;exact aO HR.o.symm rfl P.o M.o
 cases ht2:isT ⟨#[45]⟩ l1.tail
 ·replace HR:=Hy (show ((int l1.tail).bind fun x r=>Rs.ok (v1,IntKind.i64.wrap (1 * min x 1099511627776)) r)=r by rw [← HR.o,ht,ht2];rfl);have HT:=Hy ht;have HT2:=Hy ht2;clear ht ht2;refine (aV B ⟨#[94]⟩ l1 _ P.o HT.o).mono ?_;rintro e w2 ⟨rfl,pp,mm⟩;replace R:=Hy (R.o.mv mm (by have:=hlt.o;omega) (R.o.lt));replace L:=Hy (L.o.mv mm (by have:=hlt.o;have:=hgw.o;omega) (L.o.lt));replace P:=Hy pp;replace M:=Hy (M.o.next mm);clear pp mm HT;go_wp2_with fail;refine (aK B ⟨#[45]⟩ l1.tail _ P.o HT2.o).mono ?_;rintro e w3 ⟨rfl,pp,mm⟩;replace R:=Hy (R.o.mv mm (by have:=hlt.o;omega) (R.o.lt));replace L:=Hy (L.o.mv mm (by have:=hlt.o;have:=hgw.o;omega) (L.o.lt));replace P:=Hy pp;replace M:=Hy (M.o.next mm);clear pp mm HT2;go_wp2_with fail;refine wp_region_held_drew (S:=fun _=>True) (by kernel_rfl) trivial (fun hH=>?_);have P':=Hy (P.o.keeps (b0 _).drew);have M':=Hy (M.o.bG (b0 w3).drew);have L':=Hy (show Blk w3.drew g 82 #[.string v1,.int .i64 (1)] from L.o);have R':=Hy (show Blk w3.drew w.heap.size 82 #[.string ⟨#[]⟩,.int .i64 0] from R.o);refine au 0 12 ?_ hH (fun w' hS=>?_) ?_;rotate_left;(·go_simp;try rfl);simp only [sz];refine au 2 14 ?_ hH (fun w' hS=>?_) ?_;rotate_left;(·go_simp;try rfl);simp only [sz];refine dN (i:=1) (j:=3) rfl rfl (by kernel_rfl) rfl rfl (fun K hK=>?_) (fun K hK=>?_)
  ·have e1:=L'.o.cell 1;go_simp;refine hK.o _ _ trivial (fun hH=>?_);clear hK K;clear e1;refine aA 3 (fun K hK=>?_);go_simp;refine (fu B l1.tail _ P'.o _ rfl (int_ne _)).mono ?_;rintro e w4 h4;rcases hG4:int l1.tail with _ | ⟨v4,l4⟩ | ⟨a4,c4,l4⟩
   ·exact absurd hG4 (int_ne _)
   rotate_left
   ·rw [hG4] at h4;obtain ⟨rfl,pp,mm⟩:=h4;unfold thr;exact ⟨rfl,aD (by rw [← HR.o,hG4];rfl) pp (M'.o.next mm)⟩
   rw [hG4] at h4;obtain ⟨u4,rfl,vv,pp,mm⟩:=h4;obtain rfl:u4=.int .i64 v4:=vv;replace HR:=Hy (show Rs.ok (v1,IntKind.i64.wrap (1 * min v4 1099511627776)) l4=r by rw [← HR.o,hG4];rfl);replace L:=Hy (L'.o.mv mm (by have:=hlt.o;have:=hgw.o;omega) L'.o.lt);replace R:=Hy (R'.o.mv mm (by have:=hlt.o;omega) R'.o.lt);replace P:=Hy pp;replace M:=Hy (M'.o.next mm);clear P' pp mm hG4;refine hK.o _ _ trivial (fun hH=>?_);clear hK K;refine aA 4 (fun K hK=>?_);go_simp;generalize hm:min v4 1099511627776=m at *;replace hm:=Hy hm;refine hK.o _ _ trivial (fun hH=>?_);clear hK K;refine aA 5 (fun K hK=>?_);go_simp;refine hK.o _ _ trivial (fun hH=>?_);clear hK K;refine aA 6 (fun K hK=>?_);go_simp;refine hK.o _ _ trivial (fun hH=>?_);clear hK K;refine aA 7 (fun K hK=>?_);have e1:=L.o.cell 1;have z1:=L.o.free 1;go_simp;have L2:=L.o.setCell 1 (.int .i64 (IntKind.i64.wrap m));have L3:=Hy (show Blk _ g 82 #[.string v1,.int .i64 (IntKind.i64.wrap m)] from L2.1);replace P:=Hy (P.o.st L2.2 (by have:=hlt.o;have:=hgw.o;omega));replace R:=Hy (R.o.st L2.2 (by have:=hgw.o;omega));replace M:=Hy (M.o.trans (L2.2.mv (by have:=hgw.o;omega)));replace L:=L3;replace HR:=Hy (show Rs.ok (v1,(IntKind.i64.wrap m)) l4=r from by rw [← HR.o];congr 2;simp);clear L2 L3 e1 z1;refine hK.o _ _ trivial (fun hH=>?_);clear hK K;refine wpAnyH_done (by kernel_rfl) ?_ _;go_wp2_with (first | (refine aG fB dec.uy82 rfl (.tmp 3) rfl rfl _ _ _ rfl L.o rfl ?_) | (refine aF fB (.tmp 2) (.tmp 19) rfl rfl _ _ _ _ rfl rfl R.o rfl rfl (by simp [Value.oneCell']) ?_;intro w9 hb9 hs9));replace P:=Hy (P.o.st hs9 hlt.o);replace M:=Hy (M.o.trans (hs9.mv lr));refine bn fB dec.uy82 rfl rfl _ _ _ _ _ rfl hb9 rfl ?_;exact aO HR.o.symm rfl P.o M.o
  go_simp;refine (fu B l1.tail _ P'.o _ rfl (int_ne _)).mono ?_;rintro e w4 h4;rcases hG4:int l1.tail with _ | ⟨v4,l4⟩ | ⟨a4,c4,l4⟩
  ·exact absurd hG4 (int_ne _)
  rotate_left
  ·rw [hG4] at h4;obtain ⟨rfl,pp,mm⟩:=h4;unfold thr;exact ⟨rfl,aD (by rw [← HR.o,hG4];rfl) pp (M'.o.next mm)⟩
  rw [hG4] at h4;obtain ⟨u4,rfl,vv,pp,mm⟩:=h4;obtain rfl:u4=.int .i64 v4:=vv;replace HR:=Hy (show Rs.ok (v1,IntKind.i64.wrap (1 * min v4 1099511627776)) l4=r by rw [← HR.o,hG4];rfl);replace L:=Hy (L'.o.mv mm (by have:=hlt.o;have:=hgw.o;omega) L'.o.lt);replace R:=Hy (R'.o.mv mm (by have:=hlt.o;omega) R'.o.lt);replace P:=Hy pp;replace M:=Hy (M'.o.next mm);clear P' pp mm hG4;refine hK.o _ _ trivial (fun hH=>?_);clear hK K;refine dN (i:=1) (j:=4) rfl rfl (by kernel_rfl) rfl rfl (fun K hK=>?_) (fun K hK=>?_)
  ·have e1:=L.o.cell 1;go_simp;refine hK.o _ _ trivial (fun hH=>?_);clear hK K;clear e1;refine aA 4 (fun K hK=>?_);go_simp;generalize hm:min v4 1099511627776=m at *;replace hm:=Hy hm;refine hK.o _ _ trivial (fun hH=>?_);clear hK K;refine aA 5 (fun K hK=>?_);go_simp;refine hK.o _ _ trivial (fun hH=>?_);clear hK K;refine aA 6 (fun K hK=>?_);go_simp;refine hK.o _ _ trivial (fun hH=>?_);clear hK K;refine aA 7 (fun K hK=>?_);have e1:=L.o.cell 1;have z1:=L.o.free 1;go_simp;have L2:=L.o.setCell 1 (.int .i64 (IntKind.i64.wrap m));have L3:=Hy (show Blk _ g 82 #[.string v1,.int .i64 (IntKind.i64.wrap m)] from L2.1);replace P:=Hy (P.o.st L2.2 (by have:=hlt.o;have:=hgw.o;omega));replace R:=Hy (R.o.st L2.2 (by have:=hgw.o;omega));replace M:=Hy (M.o.trans (L2.2.mv (by have:=hgw.o;omega)));replace L:=L3;replace HR:=Hy (show Rs.ok (v1,(IntKind.i64.wrap m)) l4=r from by rw [← HR.o];congr 2;simp);clear L2 L3 e1 z1;refine hK.o _ _ trivial (fun hH=>?_);clear hK K;refine wpAnyH_done (by kernel_rfl) ?_ _;go_wp2_with (first | (refine aG fB dec.uy82 rfl (.tmp 3) rfl rfl _ _ _ rfl L.o rfl ?_) | (refine aF fB (.tmp 2) (.tmp 19) rfl rfl _ _ _ _ rfl rfl R.o rfl rfl (by simp [Value.oneCell']) ?_;intro w9 hb9 hs9));replace P:=Hy (P.o.st hs9 hlt.o);replace M:=Hy (M.o.trans (hs9.mv lr));refine bn fB dec.uy82 rfl rfl _ _ _ _ _ rfl hb9 rfl ?_;exact aO HR.o.symm rfl P.o M.o
  go_simp;generalize hm:min v4 1099511627776=m at *;replace hm:=Hy hm;refine hK.o _ _ trivial (fun hH=>?_);clear hK K;refine aA 1 (fun K hK=>?_);have e1:=L.o.cell 1;go_simp;refine hK.o _ _ trivial (fun hH=>?_);clear hK K;clear e1;refine aA 5 (fun K hK=>?_);go_simp;refine hK.o _ _ trivial (fun hH=>?_);clear hK K;refine aA 6 (fun K hK=>?_);go_simp;refine hK.o _ _ trivial (fun hH=>?_);clear hK K;refine aA 7 (fun K hK=>?_);have e1:=L.o.cell 1;have z1:=L.o.free 1;go_simp;have L2:=L.o.setCell 1 (.int .i64 (IntKind.i64.wrap m));have L3:=Hy (show Blk _ g 82 #[.string v1,.int .i64 (IntKind.i64.wrap m)] from L2.1);replace P:=Hy (P.o.st L2.2 (by have:=hlt.o;have:=hgw.o;omega));replace R:=Hy (R.o.st L2.2 (by have:=hgw.o;omega));replace M:=Hy (M.o.trans (L2.2.mv (by have:=hgw.o;omega)));replace L:=L3;replace HR:=Hy (show Rs.ok (v1,(IntKind.i64.wrap m)) l4=r from by rw [← HR.o];congr 2;simp);clear L2 L3 e1 z1;refine hK.o _ _ trivial (fun hH=>?_);clear hK K;refine wpAnyH_done (by kernel_rfl) ?_ _;go_wp2_with (first | (refine aG fB dec.uy82 rfl (.tmp 3) rfl rfl _ _ _ rfl L.o rfl ?_) | (refine aF fB (.tmp 2) (.tmp 19) rfl rfl _ _ _ _ rfl rfl R.o rfl rfl (by simp [Value.oneCell']) ?_;intro w9 hb9 hs9));replace P:=Hy (P.o.st hs9 hlt.o);replace M:=Hy (M.o.trans (hs9.mv lr));refine bn fB dec.uy82 rfl rfl _ _ _ _ _ rfl hb9 rfl ?_;exact aO HR.o.symm rfl P.o M.o
 replace HR:=Hy (show ((int l1.tail.tail).bind fun x r=>Rs.ok (v1,IntKind.i64.wrap (-1 * min x 1099511627776)) r)=r by rw [← HR.o,ht,ht2];rfl);have HT:=Hy ht;have HT2:=Hy ht2;clear ht ht2;refine (aV B ⟨#[94]⟩ l1 _ P.o HT.o).mono ?_;rintro e w2 ⟨rfl,pp,mm⟩;replace R:=Hy (R.o.mv mm (by have:=hlt.o;omega) (R.o.lt));replace L:=Hy (L.o.mv mm (by have:=hlt.o;have:=hgw.o;omega) (L.o.lt));replace P:=Hy pp;replace M:=Hy (M.o.next mm);clear pp mm HT;go_wp2_with fail;refine (aV B ⟨#[45]⟩ l1.tail _ P.o HT2.o).mono ?_;rintro e w3 ⟨rfl,pp,mm⟩;replace R:=Hy (R.o.mv mm (by have:=hlt.o;omega) (R.o.lt));replace L:=Hy (L.o.mv mm (by have:=hlt.o;have:=hgw.o;omega) (L.o.lt));replace P:=Hy pp;replace M:=Hy (M.o.next mm);clear pp mm HT2;have e1:=L.o.cell 1;have z1:=L.o.free 1;have L2:=L.o.setCell 1 (.int .i64 (-1));have L3:=Hy (show Blk _ g 82 #[.string v1,.int .i64 (-1)] from L2.1);replace P:=Hy (P.o.st L2.2 (by have:=hlt.o;have:=hgw.o;omega));replace R:=Hy (R.o.st L2.2 (by have:=hgw.o;omega));replace M:=Hy (M.o.trans (L2.2.mv (by have:=hgw.o;omega)));replace L:=L3;clear L2 L3;go_wp2_with fail;clear e1 z1;generalize w3.setCell ⟨g,1,none⟩ (.int .i64 (-1))=w5 at *;refine wp_region_held_drew (S:=fun _=>True) (by kernel_rfl) trivial (fun hH=>?_);have P':=Hy (P.o.keeps (b0 _).drew);have M':=Hy (M.o.bG (b0 w5).drew);have L':=Hy (show Blk w5.drew g 82 #[.string v1,.int .i64 (-1)] from L.o);have R':=Hy (show Blk w5.drew w.heap.size 82 #[.string ⟨#[]⟩,.int .i64 0] from R.o);refine au 0 12 ?_ hH (fun w' hS=>?_) ?_;rotate_left;(·go_simp;try rfl);simp only [sz];refine au 2 14 ?_ hH (fun w' hS=>?_) ?_;rotate_left;(·go_simp;try rfl);simp only [sz];refine dN (i:=1) (j:=3) rfl rfl (by kernel_rfl) rfl rfl (fun K hK=>?_) (fun K hK=>?_)
 ·have e1:=L'.o.cell 1;go_simp;refine hK.o _ _ trivial (fun hH=>?_);clear hK K;clear e1;refine aA 3 (fun K hK=>?_);go_simp;refine (fu B l1.tail.tail _ P'.o _ rfl (int_ne _)).mono ?_;rintro e w4 h4;rcases hG4:int l1.tail.tail with _ | ⟨v4,l4⟩ | ⟨a4,c4,l4⟩
  ·exact absurd hG4 (int_ne _)
  rotate_left
  ·rw [hG4] at h4;obtain ⟨rfl,pp,mm⟩:=h4;unfold thr;exact ⟨rfl,aD (by rw [← HR.o,hG4];rfl) pp (M'.o.next mm)⟩
  rw [hG4] at h4;obtain ⟨u4,rfl,vv,pp,mm⟩:=h4;obtain rfl:u4=.int .i64 v4:=vv;replace HR:=Hy (show Rs.ok (v1,IntKind.i64.wrap (-1 * min v4 1099511627776)) l4=r by rw [← HR.o,hG4];rfl);replace L:=Hy (L'.o.mv mm (by have:=hlt.o;have:=hgw.o;omega) L'.o.lt);replace R:=Hy (R'.o.mv mm (by have:=hlt.o;omega) R'.o.lt);replace P:=Hy pp;replace M:=Hy (M'.o.next mm);clear P' pp mm hG4;refine hK.o _ _ trivial (fun hH=>?_);clear hK K;refine aA 4 (fun K hK=>?_);go_simp;generalize hm:min v4 1099511627776=m at *;replace hm:=Hy hm;refine hK.o _ _ trivial (fun hH=>?_);clear hK K;refine aA 5 (fun K hK=>?_);go_simp;refine hK.o _ _ trivial (fun hH=>?_);clear hK K;refine aA 6 (fun K hK=>?_);go_simp;refine hK.o _ _ trivial (fun hH=>?_);clear hK K;refine aA 7 (fun K hK=>?_);have e1:=L.o.cell 1;have z1:=L.o.free 1;go_simp;have L2:=L.o.setCell 1 (.int .i64 (IntKind.i64.wrap (-m)));have L3:=Hy (show Blk _ g 82 #[.string v1,.int .i64 (IntKind.i64.wrap (-m))] from L2.1);replace P:=Hy (P.o.st L2.2 (by have:=hlt.o;have:=hgw.o;omega));replace R:=Hy (R.o.st L2.2 (by have:=hgw.o;omega));replace M:=Hy (M.o.trans (L2.2.mv (by have:=hgw.o;omega)));replace L:=L3;replace HR:=Hy (show Rs.ok (v1,(IntKind.i64.wrap (-m))) l4=r from by rw [← HR.o];congr 2;simp);clear L2 L3 e1 z1;refine hK.o _ _ trivial (fun hH=>?_);clear hK K;refine wpAnyH_done (by kernel_rfl) ?_ _;go_wp2_with (first | (refine aG fB dec.uy82 rfl (.tmp 3) rfl rfl _ _ _ rfl L.o rfl ?_) | (refine aF fB (.tmp 2) (.tmp 19) rfl rfl _ _ _ _ rfl rfl R.o rfl rfl (by simp [Value.oneCell']) ?_;intro w9 hb9 hs9));replace P:=Hy (P.o.st hs9 hlt.o);replace M:=Hy (M.o.trans (hs9.mv lr));refine bn fB dec.uy82 rfl rfl _ _ _ _ _ rfl hb9 rfl ?_;exact aO HR.o.symm rfl P.o M.o
 go_simp;refine (fu B l1.tail.tail _ P'.o _ rfl (int_ne _)).mono ?_;rintro e w4 h4;rcases hG4:int l1.tail.tail with _ | ⟨v4,l4⟩ | ⟨a4,c4,l4⟩
 ·exact absurd hG4 (int_ne _)
 rotate_left
 ·rw [hG4] at h4;obtain ⟨rfl,pp,mm⟩:=h4;unfold thr;exact ⟨rfl,aD (by rw [← HR.o,hG4];rfl) pp (M'.o.next mm)⟩
 rw [hG4] at h4;obtain ⟨u4,rfl,vv,pp,mm⟩:=h4;obtain rfl:u4=.int .i64 v4:=vv;replace HR:=Hy (show Rs.ok (v1,IntKind.i64.wrap (-1 * min v4 1099511627776)) l4=r by rw [← HR.o,hG4];rfl);replace L:=Hy (L'.o.mv mm (by have:=hlt.o;have:=hgw.o;omega) L'.o.lt);replace R:=Hy (R'.o.mv mm (by have:=hlt.o;omega) R'.o.lt);replace P:=Hy pp;replace M:=Hy (M'.o.next mm);clear P' pp mm hG4;refine hK.o _ _ trivial (fun hH=>?_);clear hK K;refine dN (i:=1) (j:=4) rfl rfl (by kernel_rfl) rfl rfl (fun K hK=>?_) (fun K hK=>?_)
 ·have e1:=L.o.cell 1;go_simp;refine hK.o _ _ trivial (fun hH=>?_);clear hK K;clear e1;refine aA 4 (fun K hK=>?_);go_simp;generalize hm:min v4 1099511627776=m at *;replace hm:=Hy hm;refine hK.o _ _ trivial (fun hH=>?_);clear hK K;refine aA 5 (fun K hK=>?_);go_simp;refine hK.o _ _ trivial (fun hH=>?_);clear hK K;refine aA 6 (fun K hK=>?_);go_simp;refine hK.o _ _ trivial (fun hH=>?_);clear hK K;refine aA 7 (fun K hK=>?_);have e1:=L.o.cell 1;have z1:=L.o.free 1;go_simp;have L2:=L.o.setCell 1 (.int .i64 (IntKind.i64.wrap (-m)));have L3:=Hy (show Blk _ g 82 #[.string v1,.int .i64 (IntKind.i64.wrap (-m))] from L2.1);replace P:=Hy (P.o.st L2.2 (by have:=hlt.o;have:=hgw.o;omega));replace R:=Hy (R.o.st L2.2 (by have:=hgw.o;omega));replace M:=Hy (M.o.trans (L2.2.mv (by have:=hgw.o;omega)));replace L:=L3;replace HR:=Hy (show Rs.ok (v1,(IntKind.i64.wrap (-m))) l4=r from by rw [← HR.o];congr 2;simp);clear L2 L3 e1 z1;refine hK.o _ _ trivial (fun hH=>?_);clear hK K;refine wpAnyH_done (by kernel_rfl) ?_ _;go_wp2_with (first | (refine aG fB dec.uy82 rfl (.tmp 3) rfl rfl _ _ _ rfl L.o rfl ?_) | (refine aF fB (.tmp 2) (.tmp 19) rfl rfl _ _ _ _ rfl rfl R.o rfl rfl (by simp [Value.oneCell']) ?_;intro w9 hb9 hs9));replace P:=Hy (P.o.st hs9 hlt.o);replace M:=Hy (M.o.trans (hs9.mv lr));refine bn fB dec.uy82 rfl rfl _ _ _ _ _ rfl hb9 rfl ?_;exact aO HR.o.symm rfl P.o M.o
 go_simp;generalize hm:min v4 1099511627776=m at *;replace hm:=Hy hm;refine hK.o _ _ trivial (fun hH=>?_);clear hK K;refine aA 1 (fun K hK=>?_);have e1:=L.o.cell 1;go_simp;refine hK.o _ _ trivial (fun hH=>?_);clear hK K;clear e1;refine aA 5 (fun K hK=>?_);go_simp;refine hK.o _ _ trivial (fun hH=>?_);clear hK K;refine aA 6 (fun K hK=>?_);go_simp;refine hK.o _ _ trivial (fun hH=>?_);clear hK K;refine aA 7 (fun K hK=>?_);have e1:=L.o.cell 1;have z1:=L.o.free 1;go_simp;have L2:=L.o.setCell 1 (.int .i64 (IntKind.i64.wrap (-m)));have L3:=Hy (show Blk _ g 82 #[.string v1,.int .i64 (IntKind.i64.wrap (-m))] from L2.1);replace P:=Hy (P.o.st L2.2 (by have:=hlt.o;have:=hgw.o;omega));replace R:=Hy (R.o.st L2.2 (by have:=hgw.o;omega));replace M:=Hy (M.o.trans (L2.2.mv (by have:=hgw.o;omega)));replace L:=L3;replace HR:=Hy (show Rs.ok (v1,(IntKind.i64.wrap (-m))) l4=r from by rw [← HR.o];congr 2;simp);clear L2 L3 e1 z1;refine hK.o _ _ trivial (fun hH=>?_);clear hK K;refine wpAnyH_done (by kernel_rfl) ?_ _;go_wp2_with (first | (refine aG fB dec.uy82 rfl (.tmp 3) rfl rfl _ _ _ rfl L.o rfl ?_) | (refine aF fB (.tmp 2) (.tmp 19) rfl rfl _ _ _ _ rfl rfl R.o rfl rfl (by simp [Value.oneCell']) ?_;intro w9 hb9 hs9));replace P:=Hy (P.o.st hs9 hlt.o);replace M:=Hy (M.o.trans (hs9.mv lr));refine bn fB dec.uy82 rfl rfl _ _ _ _ _ rfl hb9 rfl ?_;exact aO HR.o.symm rfl P.o M.o
theorem Bj {S B base:Nat} {w w':World} {v:Value} {l:List un.Fa} (h:un.Own w base v l) (M:Mv S B w w') (hB:B<base) (hS:w.heap.size≤S):un.Own w' base v l:=by
 obtain ⟨h1,h2⟩:=h;refine ⟨h1,?_⟩;rcases h2 with h0 | ⟨g,cap,cur,e,hbg,hh,r⟩
 ·exact .inl h0
 refine .inr ⟨g,cap,cur,e,hbg,?_,r⟩;have:g<w.heap.size:=by
  rcases Nat.lt_or_ge g w.heap.size with h' | h'
  ·exact h'
  rw [Array.getElem?_eq_none h'] at hh;cases hh
 rw [M.block _ (by omega) (by omega)];exact hh
theorem MF (B:Nat) (s:ByteArray) (l:List Tk) (w:World) (h:Ps w B l) (r:Rs (List un.Fa)) (hr:lst fac s l=r) (hne:r≠.out) :
    Calls Tryz.prog 179 #[.pointer (some ⟨B,0,none⟩),.string s,.func (.func 180) #[.pointer (some ⟨B,0,none⟩)] #[]] w (Pst B (fun C w v l=>un.Own w C v l) r w):=by
 have P:=Hy h;have hlt:=Hy h.lt;have HL:=Hy h.tl.ln;have M:=Hy (Mv.refl w.heap.size B w);have NE:=Hy hne;unfold lst at hr;have HR:=Hy hr;clear h hne hr
 go_enter Tryz.func179,Tryz.ntmps179
 go_wp2_with fail;refine (Cn B l _ P.o _ rfl (pF _)).mono ?_;rintro e w1 h1;rcases hG1:fac l with _ | ⟨v1,l1⟩ | ⟨a1,c1,l1⟩
 ·exact absurd hG1 (pF _)
 rotate_left
 ·rw [hG1] at h1;obtain ⟨rfl,pp,mm⟩:=h1;unfold thr;have hno:=bno HR hG1;have PP:=Hy pp;have MM:=Hy (M.o.next mm);clear pp mm hG1;go_wp2_with fail;exact ⟨rfl,aD hno.o PP.o MM.o⟩
 rw [hG1] at h1;obtain ⟨u1,rfl,vv,pp,mm⟩:=h1;replace HR:=bok HR hG1;obtain rfl:u1=.agg #[.string v1.1,.int .i64 v1.2]:=vv;have M1:=Hy (M.o.next mm);have hs1:=Hy (mm.size);have P1:=Hy pp;replace hG1:=Hy hG1;clear pp mm M P;have hlen:=Hy (show [v1].length+l1.length≤1048576 from by have:=nG hG1.o;have:=HL.o;simp only [List.length_singleton];omega);go_wp2_with (at_builtin;refine un.jF (.tmp 7) (.tmp 10) rfl ?_;refine un.eP _ rfl (.tmp 7) (.tmp 10) rfl w.heap.size _ [] rfl (un.Own.nil _ _) w1.heap.size v1.1 v1.2 rfl (un.Bw.new w1 v1 82) (by decide) (by have:=hs1.o;simp;omega) ?_;intro v2 w2 O2 b2);have b3:=(aj (b0 w1) (.cells #[.string v1.1,.int .i64 v1.2] 82));have P2:=Hy ((P1.o.keeps b3).keep (b2.mono (by have:=hlt.o;omega)));have M2:=Hy ((M1.o.bG b3).trans (.of b2));replace O2:=Hy O2;clear b2 b3 P1 M1 hs1 hG1
 go_loopg [6] (l1.length+1) (fun k v wr => ∃ (x:List un.Fa) (l':List Tk),Hid (un.Own wr w.heap.size v x)∧Hid (Ps wr B l')∧Hid (Mv w.heap.size B w wr)∧Hid (more fac s k x l'=r)∧Hid (x.length+l'.length≤1048576))
 case atStart=>exact ⟨[v1],l1,O2,P2,M2,HR,hlen⟩
 case round =>
  clear O2 P2 M2 HR hlen;obtain ⟨x,l',O,P,M,HR,hlen⟩:=hrel;rcases gk with _ | gk
  ·exact absurd HR.o.symm NE.o
  cases ht:isT s l'
  ·have hok:=Hy (show Rs.ok x l'=r by rw [← HR.o];unfold more;rw [ht];rfl);have HT:=Hy ht;clear ht HR;go_wp2_with fail;refine (aK B s l' _ P.o HT.o).mono ?_;rintro e w3 ⟨rfl,pp,mm⟩;have P3:=Hy pp;have O3:=Hy (Bj O.o mm hlt.o lr);have M3:=Hy (M.o.next mm);clear pp mm P O M;go_wp2_with fail;go_ret;exact aO hok.o.symm O3.o P3.o M3.o
  replace HR:=HR.o;unfold more at HR;rw [ht,if_pos rfl] at HR;replace HR:=Hy HR;have htl:=Hy (bf ht);have HT:=Hy ht;clear ht;go_wp2_with fail;refine (aV B s l' _ P.o HT.o).mono ?_;rintro e w3 ⟨rfl,pp,mm⟩;replace P:=Hy pp;have O3:=Hy (Bj O.o mm hlt.o lr);have M3:=Hy (M.o.next mm);clear pp mm O M;go_wp2_with fail;refine (Cn B l'.tail _ P.o _ rfl (pF _)).mono ?_;rintro e w4 h1;rcases hG1:fac l'.tail with _ | ⟨v1,l1⟩ | ⟨a1,c1,l1⟩
  ·exact absurd hG1 (pF _)
  rotate_left
  ·rw [hG1] at h1;obtain ⟨rfl,pp,mm⟩:=h1;unfold thr;have hno:=bno HR hG1;have PP:=Hy pp;have MM:=Hy (M3.o.next mm);clear pp mm hG1;go_wp2_with fail;exact ⟨rfl,aD hno.o PP.o MM.o⟩
  rw [hG1] at h1;obtain ⟨u1,rfl,vv,pp,mm⟩:=h1;replace HR:=bok HR hG1;obtain rfl:u1=.agg #[.string v1.1,.int .i64 v1.2]:=vv;have hl2:=Hy (nG hG1);have O4:=Hy (Bj O3.o mm hlt.o lr);have M4:=Hy (M3.o.next mm);have hxl:=Hy (show x.length<5864062014805 from by have:=hlen.o;omega);have hs1:=Hy M4.o.size;have P4:=Hy pp;clear pp mm hG1 M3 O3 P;go_wp2_with (at_builtin;refine un.jF (.tmp 15) (.tmp 18) rfl ?_;refine un.eP _ rfl (.tmp 15) (.tmp 18) rfl w.heap.size _ x rfl (O4.o.keeps (aj (b0 w4) _)) w4.heap.size v1.1 v1.2 rfl (un.Bw.new w4 v1 82) hxl.o (by have:=hs1.o;simp;omega) ?_;intro v2 w2 O2 b2);have b3:=(aj (b0 w4) (.cells #[.string v1.1,.int .i64 v1.2] 82));have P2:=Hy ((P4.o.keeps b3).keep (b2.mono (by have:=hlt.o;omega)));have M2:=Hy ((M4.o.bG b3).trans (.of b2));replace O2:=Hy O2;have hlen2:=Hy (show (x++[v1]).length+l1.length≤1048576 from by have:=hlen.o;have:=hl2.o;have:=htl.o;rw [L_a,List.length_singleton];omega);clear b2 b3;go_wp2_with fail;go_roundg gk
  case measure=>omega
  case rel=>exact ⟨x++[v1],l1,O2,P2,M2,HR,hlen2⟩
end pa
namespace un
open Go.RowKit Go.Sort Go.Lib dec
def cS (a b:ByteArray):Int:=if ltS a b=true then -1 else if a.toList=b.toList then 0 else 1
theorem Qo (s:ByteArray) (w:World):Calls Tryz.prog 308 #[.string s] w fun e w' => e=.returned (.bool false)∧w'=w:=by
 go_enter Tryz.func308,Tryz.ntmps308
 go_wp2;go_ret;exact ⟨rfl,rfl⟩
theorem Nt (a b:ByteArray) (w:World):Calls Tryz.prog 292 #[.string a,.string b] w fun e w' => e=.returned (.int .i64 (cS a b))∧w'=w:=by
 go_enter Tryz.func292,Tryz.ntmps292
 go_wp2_with (go_at_call 308;refine (Qo _ _).mono ?_;rintro e w' ⟨rfl,rfl⟩)
 all_goals go_ret
 all_goals refine ⟨congrArg (fun n=>Ending.returned (Value.int .i64 n)) (Eq.symm ?_),rfl⟩
 all_goals simp_all [cS,ltS]
def enF (x:Fa):List Value:=[.string x.1,.int .i64 x.2]
theorem vV (x y:Fa):ltOf (fun x y:Fa=>cS x.1 y.1) x y=ltS x.1 y.1:=by
 show decide (cS x.1 y.1<0)=_;unfold cS;cases h1:ltS x.1 y.1
 ·rw [if_neg Bool.false_ne_true];split <;> rfl
 rw [if_pos rfl];rfl
theorem Pg:SWO (ltOf fun x y:Fa=>cS x.1 y.1) where
 irrefl x:=by rw [vV];exact oZ _
 trans x y z h1 h2:=by rw [vV] at *;exact rC h1 h2
 ntrans x y z h1 h2:=by
  rw [vV] at *
  cases h:ltS x.1 z.1
  ·rfl
  ·exfalso
   by_cases e:x.1=y.1
   ·rw [e,h2] at h;cases h
   ·have a:=yu h1 e
    have:=rC a h
    rw [h2] at this;cases this
theorem asz (w:World) (o:Obj):(w.alloc o).heap.size=w.heap.size+1:=by simp
theorem Og (W:World) (o1 o2:Obj):∃ os,(W.alloc o1).alloc o2=grow W os:=⟨_,by rw [alloc_eq_grow,alloc_eq_grow,grow_grow]⟩
theorem Ki (w:World):grow (w.drewN 0) #[]=w:=by rw [grow_empty];rfl
theorem FD (x:Fa) (w:World):Calls Tryz.prog 245 #[.agg #[.string x.1,.int .i64 x.2]] w fun e w' => e=.returned (.string x.1)∧∃ q os',w'=grow (w.drewN q) os':=by
 go_enter Tryz.func245,Tryz.ntmps245
 go_wp2_with fail;go_ret;exact ⟨rfl,0,_,by rw [alloc_eq_grow];rfl⟩
theorem MG (x y:Fa) (kb:Nat) (W:World) (hk:W.cell? ⟨kb,0,none⟩=some (.func (.func 245) #[] #[])) :
    Calls Tryz.prog 291 #[.agg #[.string x.1,.int .i64 x.2],.agg #[.string y.1,.int .i64 y.2],.pointer (some ⟨kb,0,none⟩)] W fun e w' => e=.returned (.int .i64 (cS x.1 y.1))∧∃ q os',w'=grow (W.drewN q) os':=by
 have mixed:Tryz.prog.follows .mixedOrders=true:=by kernel_rfl
 have K1:=Hy FD;have hcon:=Hy (fun W' => Nt x.1 y.1 W');generalize cS x.1 y.1=r at hcon ⊢;have hkl:=block_lt_of_cell hk
 go_enter Tryz.func291,Tryz.ntmps291
 go_wp2_with fail;have B1:=(Bw.new W x 82).past (.cells #[.string y.1,.int .i64 y.2] 82);have B2:=Bw.new (W.alloc (.cells #[.string x.1,.int .i64 x.2] 82)) y 82;rw [asz] at B2;have hk2:=iU (.cells #[.string y.1,.int .i64 y.2] 82) (iU (.cells #[.string x.1,.int .i64 x.2] 82) hk);have hz:((W.alloc (.cells #[.string x.1,.int .i64 x.2] 82)).alloc (.cells #[.string y.1,.int .i64 y.2] 82)).heap.size=W.heap.size+2:=by simp
 have hW:=Og W (.cells #[.string x.1,.int .i64 x.2] 82) (.cells #[.string y.1,.int .i64 y.2] 82);generalize hW2:(W.alloc (.cells #[.string x.1,.int .i64 x.2] 82)).alloc (.cells #[.string y.1,.int .i64 y.2] 82)=W2 at *;have k0:∀ n os,(grow (W2.drewN n) os).cell? ⟨kb,0,none⟩=_:=cell_grown (by show kb<_;omega) hk2;have x0:∀ n os,(grow (W2.drewN n) os).cell? ⟨W.heap.size,0,none⟩=_:=cell_grown (by show W.heap.size<_;omega) B1.c0;have x1:∀ n os,(grow (W2.drewN n) os).cell? ⟨W.heap.size,1,none⟩=_:=cell_grown (by show W.heap.size<_;omega) B1.c1;have y0:∀ n os,(grow (W2.drewN n) os).cell? ⟨W.heap.size+1,0,none⟩=_:=cell_grown (by show W.heap.size+1<_;omega) B2.c0;have y1:∀ n os,(grow (W2.drewN n) os).cell? ⟨W.heap.size+1,1,none⟩=_:=cell_grown (by show W.heap.size+1<_;omega) B2.c1;clear B1 B2 hk2 hz hk hW2 hkl;generalize W.heap.size=g at *
 go_quiet_grown (first | (go_at_call 245;first | exact Calls.grown_of (K1.o x _) | exact Calls.grown_of (K1.o y _)) | (go_at_call 292;exact Calls.grown_of ((hcon.o _).mono fun e w' h=>⟨h.1,0,#[],h.2.trans (Ki _).symm⟩)))
 go_wp2_with fail;go_ret;refine ⟨rfl,?_⟩;obtain ⟨os,rfl⟩:=hW;exact ⟨nq,os++osq,by rw [← grow_grow];rfl⟩
def oq (l:List Fa):Prop:=l.Pairwise fun x y=>ltS y.1 x.1=false
theorem oh (blk off size kb:Nat) (w:World) (hk:w.cell? ⟨kb,0,none⟩=some (.func (.func 245) #[] #[])) (hne:kb≠blk) :
    CmpLays Tryz.prog 291 #[.pointer (some ⟨kb,0,none⟩)] enF 2 (fun x y=>cS x.1 y.1) blk off size w:=by
 intro m os dk _ x y;refine MG x y kb _ ?_;have hl:=block_lt_of_cell hk;have hkl:kb<w.heap.size:=hl;unfold sortWorldK;rw [cell?_grow _ _ _ (by show kb<_;simpa [putRowK,putRow,mapBlock,Sort.ahead] using hkl),cell?_putRowK_other enF 2 _ _ _ _ _ hne];exact hk
theorem tJ {w:World} {g n:Nat} {os:Array Obj} (d:Array Value):w.grownBy (grow (putRow id (Sort.ahead w n) g 0 d) os) (some g):=by
 refine ⟨rfl,rfl,rfl,by simp,fun k hk hne=>?_⟩;rw [heap_grow_old _ _ (by simpa using hk)];have:g≠k:=fun e=>hne (by rw [e]);simp [putRow,mapBlock,Sort.ahead,Array.getElem?_modify,this]
theorem nA {w:World} {g:Nat} {l:List Fa} (h:Cl w g 0 l) (hf:∀ j,j<l.length→w.frozen? ⟨g,j * 2,none⟩=false∧w.frozen? ⟨g,j * 2+1,none⟩=false):HoldsK enF 2 w g 0 l.toArray:=by
 intro j hj;have hj':j<l.length * 2:=by simpa using hj
 have hd:j / 2<l.length:=by omega
 obtain ⟨c0,c1⟩:=h (j / 2) hd;obtain ⟨f0,f1⟩:=hf (j / 2) hd;rw [get_flatK enF 2 _ _ (by simpa using hj')];have e1:l.toArray[j / 2]! = gt l (j / 2):=by
  rw [fJ hd];simp [hd]
 rw [e1];rcases Nat.mod_two_eq_zero_or_one j with hm | hm
 ·have:j / 2 * 2=j:=by omega
  rw [this] at c0 f0;rw [hm];exact ⟨c0,by rw [Nat.zero_add];exact f0⟩
 have:j / 2 * 2+1=j:=by omega
 rw [Nat.add_assoc,this] at c1;rw [this] at f1;rw [hm];exact ⟨c1,by rw [Nat.zero_add];exact f1⟩
theorem uX {w:World} {g:Nat} {d:Array Fa} (h:HoldsK enF 2 w g 0 d):Cl w g 0 d.toList:=by
 intro j hj;have hj':j<d.size:=by simpa using hj
 have e1:d[j]! = gt d.toList j:=by
  rw [fJ hj];simp [hj']
 have h0:=(h.cell (c:=0) hj' (by decide)).1;have h1:=(h.cell (c:=1) hj' (by decide)).1;rw [e1] at h0 h1;exact ⟨h0,h1⟩
theorem PK {w:World} {g n:Nat} {os:Array Obj} {cur:Array Value} {T:TypeId} {fr:Nat × Nat} (d:Array Value) (h:w.heap[g]? = some (.cells cur T fr)):∃ cs fr',(grow (putRow id (Sort.ahead w n) g 0 d) os).heap[g]? = some (.cells cs T fr'):=by
 have hg:g<w.heap.size:=by
  rcases Nat.lt_or_ge g w.heap.size with h' | h'
  ·exact h'
  rw [Array.getElem?_eq_none h'] at h;cases h
 rw [heap_grow_old _ _ (by simpa using hg)];simp [putRow,mapBlock,Sort.ahead,Array.getElem?_modify,h];exact ⟨_,_,_,rfl⟩
theorem tY (base:Nat) (v:Value) (l:List Fa) (kb:Nat) (w:World) (hO:Own w base v l) (hn:l.length<5864062014805) (hb:base≤w.heap.size) (hk:w.cell? ⟨kb,0,none⟩=some (.func (.func 245) #[] #[])) (hkn:∀ g,v.ownBlock=some g→kb≠g) :
    Calls Tryz.prog 290 #[v,.func (.func 291) #[] #[.pointer (some ⟨kb,0,none⟩)]] w fun e w' => e=.returned (.tuple #[])∧∃ a cap s,v=.slice a l.length cap∧s.Perm l∧oq s∧Sl w' a l.length cap s∧(∀ x,a=some x→base≤x.block∧∃ cs fr,w'.heap[x.block]? = some (.cells cs 82 fr))∧Below base w w':=by
 rcases hO.o with ⟨rfl,rfl⟩ | ⟨g,cap,rfl,hbg,hg,hc,hm,hC,hF⟩
 ·have hS:=AnyF.slices_SortFunc_none (P:=Tryz.prog) (ρ:=Tryz.sortFa_ren) { Tryz.sortFa with } none 0 (.func (.func 291) #[] #[.pointer (some ⟨kb,0,none⟩)]) w;refine (show Calls Tryz.prog 290 _ _ _ from hS).mono ?_;rintro e w' ⟨rfl,rfl⟩;exact ⟨rfl,none,0,[],rfl,List.Perm.refl _,by simp [oq],.nil _,fun x h=>(by cases h),Below.refl _ _⟩
 have eg:∀ args w,(callFunc 291 args).run Tryz.prog w=.ok (.enter 291 args) w:=enters_of Tryz.func291 (by kernel_rfl) rfl;have hkg:kb≠g:=hkn g rfl;obtain ⟨cur0,htag⟩:∃ cur0,w.heap[g]? = some (.cells cur0 82 (0,0)):=by
  rcases hO.2 with ⟨h0,_⟩ | ⟨g',cap',cur,e',_,hh,_⟩
  ·cases h0
  cases e';exact ⟨cur,hh⟩
 have hcon:=AnyQ.slices_SortFunc Tryz.sortFa 2 Tryz.isAgg82 Tryz.sizeOf82 enF (fun _=>rfl) (fun x v hv=>by simp [enF] at hv;rcases hv with rfl | rfl <;> rfl) (fun x y=>cS x.1 y.1) Pg 291 #[.pointer (some ⟨kb,0,none⟩)] g 0 cap l.toArray w eg (oh g 0 _ kb w hk hkg) (nA hC hF) hg (by simp;omega);simp only [List.size_toArray] at hcon;refine (show Calls Tryz.prog 290 _ _ _ from hcon).mono ?_;rintro e w' ⟨rfl,d',n,os,hp,hs,rfl⟩;have hsz:d'.size=l.length:=by have:=hp.1;simpa using this
 have hpl:d'.toList.Perm l:=by
  have:=hp.2.2;simp only [← hsz,Array.extract_size] at this;simpa [hsz] using this
 have hH:HoldsK enF 2 (sortWorldK enF 2 w g 0 n d' os) g 0 d':=holdsK_grow enF 2 _ os g 0 d' (by unfold putRowK;simpa using hg) (holdsK_putRowK enF 2 (Sort.ahead w n) g 0 l.toArray d' (holdsK_ahead enF 2 w n g 0 _ (nA hC hF)) (by simpa using hsz));refine ⟨rfl,_,cap,d'.toList,rfl,hpl,?_,⟨.inr ⟨g,0,rfl,uX hH⟩,by simpa using hsz,Nat.zero_le _,by omega,trivial⟩,fun x h=>(by cases h;exact ⟨hbg,PK _ htag⟩),(Below.refl base w).grown (tJ _) hb (fun k hk=>by cases hk;exact hbg)⟩;unfold oq;rw [List.pairwise_iff_getElem];intro i j hi hj hij;have h1:=hs i j zl hij (by rw [← hsz];simpa using hj);rw [vV] at h1;simp at hi hj;simp [hi,hj] at h1;simpa using h1
end un
namespace un
open Go.RowKit dec
open Go.Maps (Keyed)
theorem yB:Tryz.prog.underlying 244=some (.map 9 221):=by kernel_rfl
theorem K9:Keyed Tryz.prog 9:=Go.Maps.string_keyed dec.uy9
def jq {H:Type} : Value→Option (DataW H × List MemPlace)
 | .agg cs=>match cs.toList with
  | [.int .i64 h,.int .u64 l]=>some (.agg [.lit (.int .i64 h),.lit (.int .u64 l)],[])
  | _=>none
 | _=>none
def dW (n:Int):DataW Unit:=.agg [.lit (.int .i64 (hi n)),.lit (.int .u64 (lo n))]
theorem Ah (n:Int):jq (W n)=some (dW n,[]):=rfl
theorem yV {v:Value} {y:DataW Unit × List MemPlace} (h:jq v=some y):∃ c:Int × Int,v=.agg #[.int .i64 c.1,.int .u64 c.2]∧y=(.agg [.lit (.int .i64 c.1),.lit (.int .u64 c.2)],[]):=by
 unfold jq at h;split at h
 ·rename_i cs;split at h
  ·rename_i hh ll e;refine ⟨(hh,ll),?_,?_⟩
   ·have:cs=#[.int .i64 hh,.int .u64 ll]:=by
     apply Array.ext';exact e
    rw [this]
   exact (Option.some.inj h).symm
  cases h
 cases h
theorem Ai {v:Value} {n:Int} {ps:List MemPlace} (h:jq v=some (dW n,ps)):v=W n:=by
 obtain ⟨c,rfl,e⟩:=yV h;unfold dW at e;simp at e;rw [← e.1.1,← e.1.2];rfl
def kS (s:ByteArray):Lit:=.string s.data.toList
theorem vZ {a b:ByteArray} (h:kS a=kS b):a=b:=by
 unfold kS at h;injection h with h
 have:=Array.toList_inj.1 h;cases a;cases b
 simp_all
theorem rJ {s:ByteArray} (h:s.size≤maxLen):keyOf Tryz.prog 9 (.string s)=some (kS s):=Go.WideMaps.keyOf_string_mk dec.uy9 h
theorem ny {s:ByteArray} (h:s.size≤maxLen):WideAt.IsKeyLit (kS s):=K9.key (rJ h)
structure Says (l:List Fa) (D:DataW Unit):Prop where
 isM:Maps.IsMap D
 at_:∀ s,D.atKey (kS s) (dW 0)=dW (ex l s)
 has:∀ s,Maps.has D (kS s)=l.any fun x=>decide (x.1=s)
theorem Says.nil:Says [] (.map []):=⟨⟨[],rfl⟩,fun _=>rfl,fun _=>rfl⟩
theorem Gf (l:List Fa) (x:Fa) (n:ByteArray):ex (l++[x]) n=ex l n+(if x.1=n then x.2 else 0):=by
 rw [zy];simp [ex]
theorem Says.put {l:List Fa} {D:DataW Unit} (h:Says l D) (x:Fa) (hx:x.1.size≤maxLen):Says (l++[x]) (D.put (kS x.1) (dW (ex l x.1+x.2))):=by
 refine ⟨h.isM.put _ _,fun s=>?_,fun s=>?_⟩
 ·by_cases e:s=x.1
  ·subst e;rw [Maps.atKey_put_same h.isM (ny hx),Gf,if_pos rfl]
  rw [Maps.atKey_put_other (fun e' => e (vZ e')),h.at_,Gf,if_neg (fun e' => e e'.symm),Int.add_zero]
 rw [List.any_append];by_cases e:s=x.1
 ·subst e;rw [Maps.has_put_same h.isM (ny hx)];simp
 rw [Maps.has_put_other (fun e' => e (vZ e')),h.has];have hne:decide (x.1=s)=false:=dF fun e' => e e'.symm;rw [List.any_cons,hne,List.any_nil,Bool.or_false,Bool.or_false]
def Mp (w:World) (b:Nat) (l:List Fa):Prop:=∃ D:DataW Unit,w.ownsMap Tryz.prog 9 jq b l.length D∧Says l D
theorem Mp.made (w:World):Mp (w.alloc (.map #[] 0)) w.heap.size []:=⟨_,World.ownsMap_made w _ _ _,Says.nil⟩
theorem Mp.lt {w:World} {b:Nat} {l:List Fa} (h:Mp w b l):b<w.heap.size:=by obtain ⟨D,h,_⟩:=h;exact h.lt
theorem Mp.grown {w w':World} {b:Nat} {l:List Fa} {row:Option Nat} (h:Mp w b l) (hg:w.grownBy w' row) (hne:some b≠row):Mp w' b l:=by
 obtain ⟨D,h,s⟩:=h;exact ⟨D,h.kept hg hne,s⟩
theorem gT {w w':World} (h:Below w.heap.size w w'):w.grownBy w' none:=⟨h.os,h.tape,h.output,h.size,fun i hi _=>h.block i hi⟩
theorem Mp.keeps {w w':World} {b:Nat} {l:List Fa} (h:Mp w b l) (hb:Below w.heap.size w w'):Mp w' b l:=h.grown (gT hb) (by simp)
theorem Vk (w:World):(zeroValue 221).run Tryz.prog w=.ok (W 0) w:=by
 rw [← Lf];exact Tryz.zeroValue221 w
theorem Mp.look {w:World} {b:Nat} {l:List Fa} (h:Mp w b l) (s:ByteArray) (hs:s.size≤maxLen) :
    (Instr.lookup 244 (.map (some b)) (.string s) false).run Tryz.prog w=.ok (W (ex l s)) w:=by
 obtain ⟨D,h,hS⟩:=h;obtain ⟨v,ps,hrun,hv⟩:=h.lookup K9 yB (Vk w) (Ah 0) (rJ hs);rw [hS.at_] at hv;rw [hrun,Ai hv]
theorem Mp.store {w:World} {b:Nat} {l:List Fa} (h:Mp w b l) (x:Fa) (hs:x.1.size≤maxLen) (hl:l.length<maxLen) :
    ∃ w',(Instr.mapUpdate 244 (.map (some b)) (.string x.1) (W (ex l x.1+x.2))).run Tryz.prog w=.ok () w'∧Mp w' b (l++[x])∧w.grownBy w' (some b):=by
 obtain ⟨D,h,hS⟩:=h;obtain ⟨w',hrun,hown,hg⟩:=h.update K9 yB hl (rJ hs) (Ah (ex l x.1+x.2));exact ⟨w',hrun,⟨_,by rw [L_a];exact hown,hS.put x hs⟩,hg⟩
theorem Af {w:World} {o:Oper} {a:Act} {K:Act→World→Prop} {Q:Exit→Act→World→Prop} (m x v:Operand) (hop:o.op=Op.mapUpdate 244 m x v) (b:Nat) (l:List Fa) (hm:a.eval m=.map (some b)) (h:Mp w b l)
    (y:Fa) (hx:a.eval x=.string y.1) (hv:a.eval v=W (ex l y.1+y.2)) (hs:y.1.size≤maxLen) (hl:l.length<maxLen)
    (hK:∀ w',Mp w' b (l++[y])→w.grownBy w' (some b)→K (a.put o.dst undef) w'):o.wp Tryz.prog a w K Q:=by
 obtain ⟨w',hrun,h1,h2⟩:=h.store y hs hl;unfold Oper.wp;simp [execOp,hop,hm,hx,hv,hrun,Result.andThen];exact hK w' h1 h2
theorem Ig {w w':World} {b k o:Nat} {v:Value} (h:w.grownBy w' (some b)) (hne:k≠b) (hc:w.cell? ⟨k,o,none⟩=some v):w'.cell? ⟨k,o,none⟩=some v:=by
 have hl:k<w.heap.size:=block_lt_of_cell hc;have hb:=h.block k hl (by simpa using hne);unfold World.cell? at hc ⊢;rw [hb];exact hc
end un
end Go.Proofs.YtbahfelnbofjjaaGreatDoor
