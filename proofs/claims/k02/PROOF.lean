import PyProof.Rows.All
import Wide.All
import OpenK.AllK
import Wide.FinOn
import HandS.ForMost
import HandS.ForExc
import HandS.TryMany
import HandS.IsInst
import HandS.AnyAll
import HandS.EndTab
import HandS.Deep
import HandS.TupAny
import HandS.Sort
import HandS.Style
import KE.KNest
import HandS.Evl
import HandS.More
import HandS.Dict
import HandS.Iter
import HandS.DictComp
import PySem.Challenge.RW_chainkeep_k02_one_deed
set_option Elab.async false
set_option linter.all false
set_option maxRecDepth 100000
set_option maxHeartbeats 2000000
namespace C
open PySem L2
open PyProof.Rows (subscriptTail)

/-! ### extension of abstract heaps: what is tracked stays (a def's table may grow) -/
def isTbl : HO → Bool
  | .tbl _ => true
  | _ => false
theorem isTbl_of {o : HO} (h : isTbl o = true) : ∃ ps, o = .tbl ps := by cases o <;> first | exact ⟨_, rfl⟩ | cases h
structure Ext (H H' : Hp) : Prop where
  keep : ∀ a o, H a = some o → isTbl o = false → H' a = some o
  tb : ∀ a ps, H a = some (.tbl ps) → ∃ qs, H' a = some (.tbl qs)
/-- the defs' tables are in order -/
def TabsOk (K : PySem.W.Frag) (H : Hp) : Prop := ∀ c P ps, PySem.W.tabIn K "is_key" = some (c, P) → H P = some (.tbl ps) → TriplesOk ps.toList
theorem Ext.dom {H H' : Hp} (e : Ext H H') : ∀ a o, H a = some o → ∃ o', H' a = some o' := fun a o h => by
  cases q : isTbl o with
  | false => exact ⟨o, e.keep a o h q⟩
  | true =>
    obtain ⟨ps, rfl⟩ := isTbl_of q
    obtain ⟨qs, r⟩ := e.tb a ps h
    exact ⟨_, r⟩
theorem Ext.refl (H : Hp) : Ext H H := ⟨fun _ _ h _ => h, fun _ ps h => ⟨ps, h⟩⟩
theorem Ext.trans {H H1 H2 : Hp} (a : Ext H H1) (b : Ext H1 H2) : Ext H H2 :=
  ⟨fun x o h n => b.keep x o (a.keep x o h n) n, fun P ps h => by obtain ⟨qs, r⟩ := a.tb P ps h; exact b.tb P qs r⟩
theorem Ext.fresh {H H' : Hp} (e : Ext H H') {p : Addr} (h : H' p = none) : H p = none := by
  cases q : H p with
  | none => rfl
  | some o =>
    obtain ⟨o', h'⟩ := e.dom p o q
    rw [h] at h'; cases h'
/-- an object that H does not know may change -/
theorem Ext.mut {H H' : Hp} {p : Addr} {o : HO} (e : Ext H H') (h : H p = none) : Ext H (upd H' p o) where
  keep := fun a u ha n => by
    rw [upd_ne (ne_of_none ha h)]
    exact e.keep a u ha n
  tb := fun a u ha => by
    rw [upd_ne (ne_of_none ha h)]
    exact e.tb a u ha
theorem Ext.new {H : Hp} {p : Addr} {o : HO} (h : H p = none) : Ext H (upd H p o) := (Ext.refl H).mut h
theorem Ext.both {H H' : Hp} {p : Addr} {o : HO} (e : Ext H H') : Ext (upd H p o) (upd H' p o) where
  keep := fun a u ha n => by
    by_cases z : a = p
    · subst z; rw [upd_same] at ha ⊢; exact ha
    · rw [upd_ne z] at ha ⊢; exact e.keep a u ha n
  tb := fun a u ha => by
    by_cases z : a = p
    · subst z; rw [upd_same] at ha ⊢; exact ⟨u, ha⟩
    · rw [upd_ne z] at ha ⊢; exact e.tb a u ha
theorem Ext.tabbed {H H' : Hp} {P : Addr} (t : GxR.TabG H P) (h : GxR.Tabbed P H H') : Ext H H' where
  keep := fun a o ha n => by
    by_cases hb : a = P
    · obtain ⟨ps, e, _⟩ := t
      rw [hb, e] at ha
      cases ha
      cases n
    · rw [h.2 a hb]; exact ha
  tb := fun a ps ha => by
    by_cases hb : a = P
    · obtain ⟨qs, e, _⟩ := h.1
      rw [hb]; exact ⟨_, e⟩
    · exact ⟨ps, by rw [h.2 a hb]; exact ha⟩
theorem TabsOk.upd {K : PySem.W.Frag} {H : Hp} {p : Addr} {o : HO} (t : TabsOk K H) (n : isTbl o = false) : TabsOk K (upd H p o) := fun c P ps k h => by
  by_cases z : P = p
  · subst z; rw [upd_same] at h; cases h; cases n
  · rw [upd_ne z] at h; exact t c P ps k h
theorem TabsOk.tabbed {K : PySem.W.Frag} {H H' : Hp} {P : Addr} (t : TabsOk K H) (h : GxR.Tabbed P H H') : TabsOk K H' := fun c Q ps k q => by
  by_cases z : Q = P
  · obtain ⟨qs, e, r⟩ := h.1
    rw [z, e] at q; cases q; exact r
  · rw [h.2 Q z] at q; exact t c Q ps k q
/-- what two heaps know together: E where it knows, else G -/
def uni (E G : Hp) : Hp := fun b => match E b with
  | some o => some o
  | none => G b
theorem uni_l {E G : Hp} : Ext E (uni E G) := ⟨fun a o h _ => by unfold uni; rw [h], fun a ps h => ⟨ps, by unfold uni; rw [h]⟩⟩
theorem uni_n {E G : Hp} {a : Addr} (h : E a = none) : uni E G a = G a := by unfold uni; rw [h]
theorem uni_to {E G H : Hp} (e : Ext E H) (g : Ext G H) : Ext (uni E G) H where
  keep := fun a o h n => by
    cases q : E a with
    | none => rw [uni_n q] at h; exact g.keep a o h n
    | some u => unfold uni at h; rw [q] at h; cases h; exact e.keep a _ q n
  tb := fun a o h => by
    cases q : E a with
    | none => rw [uni_n q] at h; exact g.tb a o h
    | some u => unfold uni at h; rw [q] at h; cases h; exact e.tb a _ q
theorem uni_r {E G H : Hp} (e : Ext E H) (g : Ext G H) : Ext G (uni E G) where
  keep := fun a o h n => by
    cases q : E a with
    | none => rw [uni_n q]; exact h
    | some u =>
      have r := g.keep a o h n
      cases t : isTbl u with
      | false =>
        rw [e.keep a u q t] at r
        cases r
        unfold uni; rw [q]
      | true =>
        obtain ⟨ps, rfl⟩ := isTbl_of t
        obtain ⟨qs, r2⟩ := e.tb a ps q
        rw [r2] at r; cases r; cases n
  tb := fun a ps h => by
    cases q : E a with
    | none => rw [uni_n q]; exact ⟨ps, h⟩
    | some u =>
      obtain ⟨qs, r⟩ := g.tb a ps h
      cases t : isTbl u with
      | false =>
        rw [e.keep a u q t] at r
        cases r; cases t
      | true =>
        obtain ⟨ps, rfl⟩ := isTbl_of t
        exact ⟨ps, by unfold uni; rw [q]⟩
/-- from the base H within H1 to the base G within H2: G is new but for H; what H1 had beside H is kept -/
structure Fr (K : PySem.W.Frag) (H H1 G H2 : Hp) : Prop where
  g : Ext H G
  g2 : Ext G H2
  h : Ext H1 H2
  off : ∀ b o, H b = none → H1 b = some o → G b = none
  tok : TabsOk K H2
theorem Fr.refl {K : PySem.W.Frag} {H H1 : Hp} (e : Ext H H1) (t : TabsOk K H1) : Fr K H H1 H H1 := ⟨Ext.refl _, e, Ext.refl _, fun _ _ n _ => n, t⟩
theorem Fr.trans {K : PySem.W.Frag} {H H1 G H2 G' H3 : Hp} (a : Fr K H H1 G H2) (b : Fr K G H2 G' H3) : Fr K H H1 G' H3 :=
  ⟨a.g.trans b.g, b.g2, a.h.trans b.h, fun x o n q => by obtain ⟨o', r⟩ := a.h.dom x o q; exact b.off x o' (a.off x o n q) r, b.tok⟩
theorem Fr.new {K : PySem.W.Frag} {H H1 G H2 : Hp} {p : Addr} {o : HO} (a : Fr K H H1 G H2) (n : H2 p = none) (t : isTbl o = false) : Fr K H H1 (upd G p o) (upd H2 p o) :=
  ⟨a.g.trans (Ext.new (a.g2.fresh n)), a.g2.both, a.h.trans (Ext.new n), fun b u q r => by rw [upd_ne (ne_of_none r (a.h.fresh n))]; exact a.off b u q r, a.tok.upd t⟩
theorem Fr.pre {K : PySem.W.Frag} {H H0 H1 G H2 : Hp} (a : Fr K H H1 G H2) (e : Ext H0 H1) : Fr K H H0 G H2 := ⟨a.g, a.g2, e.trans a.h, fun b o n m => by obtain ⟨o', m'⟩ := e.dom b o m; exact a.off b o' n m', a.tok⟩
theorem Fr.step {K : PySem.W.Frag} {H H1 G H2 H3 : Hp} (a : Fr K H H1 G H2) (e1 : Ext G H3) (e2 : Ext H2 H3) (t : TabsOk K H3) : Fr K H H1 G H3 := ⟨a.g, e1, a.h.trans e2, a.off, t⟩
/-- new at G and not known to H: not known to H1 -/
theorem Fr.fresh {K : PySem.W.Frag} {H H1 G H2 : Hp} (a : Fr K H H1 G H2) {b : Addr} {o : HO} (n : H b = none) (q : G b = some o) : H1 b = none := by
  cases r : H1 b with
  | none => rfl
  | some u => rw [a.off b u n r] at q; cases q
theorem Fr.mono {K : PySem.W.Frag} {H H' H1 G H2 : Hp} (a : Fr K H H1 G H2) (e : Ext H H') (e1 : Ext H' H1) : Fr K H' H1 (uni H' G) H2 :=
  ⟨uni_l, uni_to (e1.trans a.h) a.g2, a.h, fun b o n q => by rw [uni_n n]; exact a.off b o (e.fresh n) q, a.tok⟩
section
variable {K : PySem.W.Frag} {H H' : Hp}
theorem Ext.rd {a : Addr} {u : HO} (e : Ext H H') (h : Rd H a u) (n : isTbl u = false) : Rd H' a u := by
  rcases h with h | ⟨o, h⟩
  · exact .inl (e.keep a _ h n)
  · exact .inr ⟨o, e.keep a _ h rfl⟩
theorem Ext.l {a : Addr} {xs : List V} (e : Ext H H') (h : SqL K H a xs) : SqL K H' a xs := by
  rcases h with h | h
  · exact .inl (e.rd h rfl)
  · exact .inr h
theorem Ext.t {a : Addr} {xs : List V} (e : Ext H H') (h : SqT K H a xs) : SqT K H' a xs := by
  rcases h with h | h
  · exact .inl (e.rd h rfl)
  · exact .inr h
mutual
theorem Ext.rep (e : Ext H H') : ∀ (d : PyData) (v : V), Dp K H v d → Dp K H' v d
  | _, _, .non => .non
  | _, _, .bl b => .bl b
  | _, _, .int i => .int i
  | _, _, .str x => .str x
  | .list ds, _, .lst h q => .lst (e.l h) (Ext.reps e ds _ q)
  | .tuple ds, _, .tup h q => .tup (e.t h) (Ext.reps e ds _ q)
theorem Ext.reps (e : Ext H H') : ∀ (ds : List PyData) (vs : List V), DpAll K H vs ds → DpAll K H' vs ds
  | _, _, .nil => .nil
  | d :: ds, _, .cons h q => .cons (Ext.rep e d _ h) (Ext.reps e ds _ q)
end
theorem Ext.dp (e : Ext H H') {d : PyData} {v : V} (h : Dp K H v d) : Dp K H' v d := e.rep d v h
theorem Ext.dps (e : Ext H H') {d : List PyData} {v : List V} (h : DpAll K H v d) : DpAll K H' v d := e.reps d v h
end

/-! ### readings straight from the syntax -/
section
variable (X : Cx)
def bE (e : Expr) : TE := fun σ H Q => ∀ pins s, Inv X pins σ H s → wpAny (model X.prog X.w) X.A (eval e X.env) (EP X pins σ Q) X.xe s
def bT (e : Expr) : TT := fun σ H Q => ∀ pins s, Inv X pins σ H s → wpAny (model X.prog X.w) X.A (isTrue e X.env (eval e X.env)) (TP X pins σ Q) X.xe s
def bW (e : Expr) : TT := fun σ H Q => ∀ (whole : Sem Value) pins s, Inv X pins σ H s → wpAny (model X.prog X.w) X.A (isTrue e X.env whole) (TP X pins σ Q) X.xe s
def bA (es : List Expr) : TA := fun σ H Q => ∀ (pos : Pos) pins s, Inv X pins σ H s → wpAny (model X.prog X.w) X.A (spliced (backTo pos (starEach es X.env))) (AP X pins σ Q) X.xe s
def bS (st : Stmt) : TS := fun D σ H => ∀ pins s, Inv X pins σ H s → wpAny (model X.prog X.w) X.A (exec st X.env) (SP X pins D) X.xe s
def bB (st : List Stmt) : TS := fun D σ H => ∀ pins s, Inv X pins σ H s → wpAny (model X.prog X.w) X.A (execs st X.env) (SP X pins D) X.xe s
end
section
variable {X : Cx} {e : Expr} {es : List Expr} {st : Stmt} {sts : List Stmt}
theorem pe_b : PE X e (bE X e) := ⟨fun pins s _ _ _ I h => h pins s I⟩
theorem pt_b : PT X e (bT X e) := ⟨fun pins s _ _ _ I h => h pins s I⟩
theorem pw_b : PW X e (bW X e) := ⟨fun w pins s _ _ _ I h => h w pins s I⟩
theorem pa_b : PA X es (bA X es) := ⟨fun p pins s _ _ _ I h => h p pins s I⟩
theorem ps_b : PS X st (bS X st) := ⟨fun pins s _ _ _ I h => h pins s I⟩
theorem pss_b : PSs X sts (bB X sts) := ⟨fun pins s _ _ _ I h => h pins s I⟩
theorem PE.b {t : TE} (p : PE X e t) {σ : L2.St} {H : Hp} {Q : VK} (h : t σ H Q) : bE X e σ H Q := fun pins s I => p.run pins s σ H Q I h
theorem PT.b {t : TT} (p : PT X e t) {σ : L2.St} {H : Hp} {Q : Bool → Hp → Prop} (h : t σ H Q) : bT X e σ H Q := fun pins s I => p.run pins s σ H Q I h
theorem PW.b {t : TT} (p : PW X e t) {σ : L2.St} {H : Hp} {Q : Bool → Hp → Prop} (h : t σ H Q) : bW X e σ H Q := fun w pins s I => p.run w pins s σ H Q I h
theorem PA.b {t : TA} (p : PA X es t) {σ : L2.St} {H : Hp} {Q : List V → Hp → Prop} (h : t σ H Q) : bA X es σ H Q := fun pos pins s I => p.run pos pins s σ H Q I h
theorem PS.b {t : TS} (p : PS X st t) {D : Ends} {σ : L2.St} {H : Hp} (h : t D σ H) : bS X st D σ H := fun pins s I => p.run pins s σ H D I h
theorem PSs.b {t : TS} (p : PSs X sts t) {D : Ends} {σ : L2.St} {H : Hp} (h : t D σ H) : bB X sts D σ H := fun pins s I => p.run pins s σ H D I h
end

/-! ### evaluation -/
/-- the value and the base behind -/
abbrev VP := V → Hp → Prop
def Ev (X : Cx) (e : Expr) (σ : L2.St) (H : Hp) (P : VP) : Prop := ∀ H1, Ext H H1 → TabsOk X.K H1 → ∀ Q : VK, (∀ v G H2, Fr X.K H H1 G H2 → P v G → Q v H2) → bE X e σ H1 Q
def EvD (X : Cx) (e : Expr) (σ : L2.St) (H : Hp) (d : PyData) : Prop := Ev X e σ H fun v G => Dp X.K G v d
def EvV (X : Cx) (e : Expr) (σ : L2.St) (H : Hp) (v : V) : Prop := Ev X e σ H fun u _ => u = v
def EvT (X : Cx) (e : Expr) (σ : L2.St) (H : Hp) (b : Bool) : Prop := ∀ H1, Ext H H1 → TabsOk X.K H1 → ∀ Q : Bool → Hp → Prop, (∀ G H2, Fr X.K H H1 G H2 → Q b H2) → bT X e σ H1 Q
def EvW (X : Cx) (e : Expr) (σ : L2.St) (H : Hp) (b : Bool) : Prop := ∀ H1, Ext H H1 → TabsOk X.K H1 → ∀ Q : Bool → Hp → Prop, (∀ G H2, Fr X.K H H1 G H2 → Q b H2) → bW X e σ H1 Q
def EvA (X : Cx) (es : List Expr) (σ : L2.St) (H : Hp) (P : List V → Hp → Prop) : Prop := ∀ H1, Ext H H1 → TabsOk X.K H1 → ∀ Q : List V → Hp → Prop, (∀ vs G H2, Fr X.K H H1 G H2 → P vs G → Q vs H2) → bA X es σ H1 Q
def EvAD (X : Cx) (es : List Expr) (σ : L2.St) (H : Hp) (ds : List PyData) : Prop := EvA X es σ H fun vs G => DpAll X.K G vs ds
/-- a two-place operation by values -/
def bO (X : Cx) (f : Value → Value → Sem Value) : R2 := fun x y H Q => ∀ pins s σ v u, Inv X pins σ H s → RelV x v → RelV y u → wpAny (model X.prog X.w) X.A (f v u) (EP X pins σ Q) X.xe s
theorem or_b {X : Cx} {f : Value → Value → Sem Value} : OpR X f (bO X f) := fun pins s σ _ _ _ v u _ I rx ry h => h pins s σ v u I rx ry
theorem OpR.b {X : Cx} {f : Value → Value → Sem Value} {r : R2} (o : OpR X f r) {x y : V} {H : Hp} {Q : VK} (h : r x y H Q) : bO X f x y H Q := fun pins s σ v u I rx ry => o pins s σ H x y v u Q I rx ry h
def OpD (X : Cx) (f : Value → Value → Sem Value) (H : Hp) (d1 d2 d3 : PyData) : Prop :=
  ∀ G H1, Ext H G → Ext G H1 → TabsOk X.K H1 → ∀ x y, Dp X.K G x d1 → Dp X.K G y d2 → ∀ Q : VK, (∀ z G' H2, Fr X.K G H1 G' H2 → Dp X.K G' z d3 → Q z H2) → bO X f x y H1 Q
section
variable {X : Cx} {σ : L2.St} {H H' : Hp} {e a b c : Expr} {es : List Expr} {d d1 d2 d3 : PyData} {v x y : V} {pos : Pos} {k l : Bool}
theorem Ev.mono {P : VP} (E : Ext H H') (hP : ∀ v G G', Ext G G' → P v G → P v G') (h : Ev X e σ H P) : Ev X e σ H' P := fun H1 a t Q q => h H1 (E.trans a) t Q fun v G H2 f p =>
  q v (uni H' G) H2 (f.mono E a) (hP v G _ (uni_r (a.trans f.h) f.g2) p)
theorem EvD.mono (E : Ext H H') (h : EvD X e σ H d) : EvD X e σ H' d := Ev.mono E (fun _ _ _ a p => a.dp p) h
theorem EvV.mono (E : Ext H H') (h : EvV X e σ H v) : EvV X e σ H' v := Ev.mono E (fun _ _ _ _ p => p) h
theorem EvT.mono (E : Ext H H') (h : EvT X e σ H k) : EvT X e σ H' k := fun H1 a t Q q => h H1 (E.trans a) t Q fun G H2 f => q _ H2 (f.mono E a)
theorem EvW.mono (E : Ext H H') (h : EvW X e σ H k) : EvW X e σ H' k := fun H1 a t Q q => h H1 (E.trans a) t Q fun G H2 f => q _ H2 (f.mono E a)
theorem EvAD.mono {ds : List PyData} (E : Ext H H') (h : EvAD X es σ H ds) : EvAD X es σ H' ds := fun H1 a t Q q => h H1 (E.trans a) t Q fun v G H2 f p =>
  q v (uni H' G) H2 (f.mono E a) ((uni_r (a.trans f.h) f.g2).dps p)
theorem Ev.imp {P R : VP} (h : Ev X e σ H P) (k : ∀ v G, Ext H G → P v G → R v G) : Ev X e σ H R := fun H1 E t Q q => h H1 E t Q fun v G H2 f p => q v G H2 f (k v G f.g p)
theorem EvV.dat (h : EvV X e σ H v) (r : Dp X.K H v d) : EvD X e σ H d := Ev.imp h fun u G E q => by subst q; exact E.dp r
theorem EvD.toInt {i : Int} (h : EvD X e σ H (.int i)) : EvV X e σ H (.int i) := Ev.imp h fun u _ _ q => by cases q; rfl
theorem EvD.toBl {i : Bool} (h : EvD X e σ H (.bool i)) : EvV X e σ H (.bl i) := Ev.imp h fun u _ _ q => by cases q; rfl
theorem EvD.toStr {i : Str} (h : EvD X e σ H (.str i)) : EvV X e σ H (.str i) := Ev.imp h fun u _ _ q => by cases q; rfl
theorem EvD.to {d' : PyData} (h : EvD X e σ H d) (q : d = d') : EvD X e σ H d' := q ▸ h
theorem EvW.to {b b' : Bool} (h : EvW X e σ H b) (q : b = b') : EvW X e σ H b' := q ▸ h
theorem EvT.to {b b' : Bool} (h : EvT X e σ H b) (q : b = b') : EvT X e σ H b' := q ▸ h
/-! names, constants -/
theorem ev_var (i : Nat) {x : Str} (hi : σ[i]? = some (some v)) (hN : X.N[i]? = some x := by rfl) (hv : Vis X.env.scope x := by first | exact Or.inl rfl | exact Or.inr (Or.inl rfl) | exact Or.inr (Or.inr rfl)) (hd : (x == ("__debug__" : Str)) = false := by decide)
    (hcd : (x == ("__classdict__" : Str)) = false := by decide) : EvV X (.Name x pos) σ H v := fun H1 E t Q q => PE.b (pe_var hN hv hd hcd) ⟨v, hi, q v H H1 (Fr.refl E t) rfl⟩
theorem ev_int {i : Int} {j} : EvD X (.Constant (.int i) j pos) σ H (.int i) := fun H1 E t Q q => PE.b pe_int (q _ H H1 (Fr.refl E t) (.int i))
theorem ev_bl {i : Bool} {j} : EvD X (.Constant (.bool i) j pos) σ H (.bool i) := fun H1 E t Q q => PE.b pe_bl (q _ H H1 (Fr.refl E t) (.bl i))
theorem ev_str {i : String} {j} : EvD X (.Constant (.str i) j pos) σ H (.str i) := fun H1 E t Q q => PE.b pe_str (q _ H H1 (Fr.refl E t) (.str i))
theorem ev_non {j} : EvD X (.Constant .none j pos) σ H .none := fun H1 E t Q q => PE.b pe_non (q _ H H1 (Fr.refl E t) .non)
/-! operations -/
theorem ev_bin {op : Operator} (ha : EvD X a σ H d1) (hb : EvD X b σ H d2) (ho : OpD X (binaryOp op) H d1 d2 d3) : EvD X (.BinOp a op b pos) σ H d3 := fun H1 E t Q q =>
  PE.b (pe_op or_b pe_b pe_b) (ha H1 E t _ fun x G H2 f p => hb.mono f.g H2 f.g2 f.tok _ fun y G2 H3 f2 r => ho G2 H3 (f.g.trans f2.g) f2.g2 f2.tok x y (f2.g.dp p) r Q fun z G3 H4 f3 s => q z G3 H4 ((f.trans f2).trans f3) s)
theorem ev_cmp {op : CmpOp} (ha : EvD X a σ H d1) (hb : EvD X b σ H d2) (ho : OpD X (compareOp op) H d1 d2 d3) (hm : behindInMarks op b = false := by rfl) : EvD X (.Compare a [op] [b] pos) σ H d3 := fun H1 E t Q q =>
  PE.b (pe_cmpR or_b pe_b pe_b hm) (ha H1 E t _ fun x G H2 f p => hb.mono f.g H2 f.g2 f.tok _ fun y G2 H3 f2 r => ho G2 H3 (f.g.trans f2.g) f2.g2 f2.tok x y (f2.g.dp p) r Q fun z G3 H4 f3 s => q z G3 H4 ((f.trans f2).trans f3) s)
theorem et_cmp {op : CmpOp} (ha : EvD X a σ H d1) (hb : EvD X b σ H d2) (ho : OpD X (compareOp op) H d1 d2 (.bool k)) (hm : behindInMarks op b = false := by rfl) : EvT X (.Compare a [op] [b] pos) σ H k := fun H1 E t Q q =>
  PT.b (pt_cmpR or_b pe_b pe_b hm) (ha H1 E t _ fun x G H2 f p => hb.mono f.g H2 f.g2 f.tok _ fun y G2 H3 f2 r => ho G2 H3 (f.g.trans f2.g) f2.g2 f2.tok x y (f2.g.dp p) r _ fun z G3 H4 f3 s => by
    cases s
    exact ⟨k, rfl, q G3 H4 ((f.trans f2).trans f3)⟩)
theorem all_len {K : PySem.W.Frag} {H : Hp} : ∀ {vs : List V} {ds : List PyData}, DpAll K H vs ds → vs.length = ds.length
  | _, _, .nil => rfl
  | _, _, .cons _ r => congrArg (· + 1) (all_len r)
theorem line_of {n : Nat} (h : n ≤ 100000) : n ≤ sizeLine := Nat.le_trans h (by decide)
theorem et_val (h : EvD X e σ H (.bool k)) (he : ∀ whole, isTrue e X.env whole = (do let v ← whole; standAt e.pos; holding [v] (truthy v)) := by intro _; rfl) : EvT X e σ H k := fun H1 E t Q q =>
  PT.b (pt_val pe_b he) (h H1 E t _ fun v G H2 f r => by
    cases r
    exact ⟨k, rfl, q G H2 f⟩)
theorem et_not (h : EvT X e σ H k) : EvT X (.UnaryOp .Not e pos) σ H (!k) := fun H1 E t Q q => PT.b (pt_not pt_b) (h H1 E t _ fun G H2 f => q G H2 f)
theorem et_w (h : EvW X e σ H k) : EvT X e σ H k := fun H1 E t Q q => PT.b (PW.pt pw_b) (h H1 E t _ fun G H2 f => q G H2 f)
theorem ew_and1 (h : EvT X a σ H k) : EvW X (.BoolOp .And [a] pos) σ H k := fun H1 E t Q q => PW.b (pw_and1 pt_b) (h H1 E t _ fun G H2 f => q G H2 f)
theorem ew_or1 (h : EvT X a σ H k) : EvW X (.BoolOp .Or [a] pos) σ H k := fun H1 E t Q q => PW.b (pw_or1 pt_b) (h H1 E t _ fun G H2 f => q G H2 f)
theorem ew_and (h : EvT X a σ H k) (h2 : k = true → EvW X (.BoolOp .And (b :: es) pos) σ H l) : EvW X (.BoolOp .And (a :: b :: es) pos) σ H (k && l) := fun H1 E t Q q =>
  PW.b (pw_and pt_b pw_b) (h H1 E t _ fun G H2 f => by
    cases k with
    | true => exact (h2 rfl).mono f.g H2 f.g2 f.tok _ fun G2 H3 f2 => q G2 H3 (f.trans f2)
    | false => exact q G H2 f)
theorem ew_or (h : EvT X a σ H k) (h2 : k = false → EvW X (.BoolOp .Or (b :: es) pos) σ H l) : EvW X (.BoolOp .Or (a :: b :: es) pos) σ H (k || l) := fun H1 E t Q q =>
  PW.b (pw_or pt_b pw_b) (h H1 E t _ fun G H2 f => by
    cases k with
    | false => exact (h2 rfl).mono f.g H2 f.g2 f.tok _ fun G2 H3 f2 => q G2 H3 (f.trans f2)
    | true => exact q G H2 f)
theorem ev_one {op} (h : EvD X a σ H d) : EvD X (.BoolOp op [a] pos) σ H d := fun H1 E t Q q => PE.b (pe_one pe_b) (h H1 E t Q q)
theorem ev_and (h : EvD X a σ H (.bool k)) (h2 : k = true → EvD X (.BoolOp .And (b :: es) pos) σ H (.bool l)) : EvD X (.BoolOp .And (a :: b :: es) pos) σ H (.bool (k && l)) := fun H1 E t Q q =>
  PE.b (pe_and pe_b pe_b) (h H1 E t _ fun v G H2 f r => by
    cases r
    refine ⟨k, rfl, ?_⟩
    cases k with
    | true => exact (h2 rfl).mono f.g H2 f.g2 f.tok _ fun v G2 H3 f2 r => q v G2 H3 (f.trans f2) r
    | false => exact q _ G H2 f (.bl _))
theorem ev_or (h : EvD X a σ H (.bool k)) (h2 : k = false → EvD X (.BoolOp .Or (b :: es) pos) σ H (.bool l)) : EvD X (.BoolOp .Or (a :: b :: es) pos) σ H (.bool (k || l)) := fun H1 E t Q q =>
  PE.b (pe_or pe_b pe_b) (h H1 E t _ fun v G H2 f r => by
    cases r
    refine ⟨k, rfl, ?_⟩
    cases k with
    | false => exact (h2 rfl).mono f.g H2 f.g2 f.tok _ fun v G2 H3 f2 r => q v G2 H3 (f.trans f2) r
    | true => exact q _ G H2 f (.bl _))
theorem ev_not (h : EvD X a σ H (.bool k)) : EvD X (.UnaryOp .Not a pos) σ H (.bool (!k)) := fun H1 E t Q q =>
  PE.b (pe_not pe_b) (h H1 E t _ fun v G H2 f r => by
    cases r
    exact ⟨k, rfl, q _ G H2 f (.bl _)⟩)
theorem ev_ifx (h : EvT X c σ H k) (h1 : k = true → EvD X a σ H d) (h2 : k = false → EvD X b σ H d) : EvD X (.IfExp c a b pos) σ H d := fun H1 E t Q q =>
  PE.b (pe_ifExp pt_b pe_b pe_b) (h H1 E t _ fun G H2 f => by
    cases k with
    | true => exact (h1 rfl).mono f.g H2 f.g2 f.tok _ fun v G2 H3 f2 r => q v G2 H3 (f.trans f2) r
    | false => exact (h2 rfl).mono f.g H2 f.g2 f.tok _ fun v G2 H3 f2 r => q v G2 H3 (f.trans f2) r)
theorem ev_chain {o o' : CmpOp} (ha : EvD X a σ H d1) (hb : EvD X b σ H d2) (ho : OpD X (compareOp o) H d1 d2 (.bool k)) (hc : k = true → EvD X c σ H d3) (ho' : k = true → OpD X (compareOp o') H d2 d3 (.bool l))
    (hm : lastMarks [o, o'] [b, c] = false := by with_unfolding_all rfl) : EvD X (.Compare a [o, o'] [b, c] pos) σ H (.bool (k && l)) := fun H1 E t Q q =>
  PE.b (pe_chain or_b or_b pe_b pe_b pe_b hm) (ha H1 E t _ fun x G H2 f p => hb.mono f.g H2 f.g2 f.tok _ fun y G2 H3 f2 r => ho G2 H3 (f.g.trans f2.g) f2.g2 f2.tok x y (f2.g.dp p) r _ fun z G3 H4 f3 s => by
    cases s
    refine ⟨k, rfl, ?_⟩
    cases k with
    | true => exact (hc rfl).mono ((f.trans f2).trans f3).g H4 f3.g2 f3.tok _ fun w G4 H5 f4 t => ho' rfl G4 H5 (((f.trans f2).trans f3).trans f4).g f4.g2 f4.tok y w ((f3.trans f4).g.dp r) t Q fun z G5 H6 f5 u => q z G5 H6 ((((f.trans f2).trans f3).trans f4).trans f5) u
    | false => exact q _ G3 H4 ((f.trans f2).trans f3) (.bl _))
theorem et_chain {o o' : CmpOp} (ha : EvD X a σ H d1) (hb : EvD X b σ H d2) (ho : OpD X (compareOp o) H d1 d2 (.bool k)) (hc : k = true → EvD X c σ H d3) (ho' : k = true → OpD X (compareOp o') H d2 d3 (.bool l))
    (hm : lastMarks [o, o'] [b, c] = false := by with_unfolding_all rfl) : EvT X (.Compare a [o, o'] [b, c] pos) σ H (k && l) := fun H1 E t Q q =>
  PT.b (pt_chain or_b or_b pe_b pe_b pe_b hm) (ha H1 E t _ fun x G H2 f p => hb.mono f.g H2 f.g2 f.tok _ fun y G2 H3 f2 r => ho G2 H3 (f.g.trans f2.g) f2.g2 f2.tok x y (f2.g.dp p) r _ fun z G3 H4 f3 s => by
    cases s
    refine ⟨k, rfl, ?_⟩
    cases k with
    | true => exact (hc rfl).mono ((f.trans f2).trans f3).g H4 f3.g2 f3.tok _ fun w G4 H5 f4 t => ho' rfl G4 H5 (((f.trans f2).trans f3).trans f4).g f4.g2 f4.tok y w ((f3.trans f4).g.dp r) t _ fun z G5 H6 f5 u => (by
        cases u
        exact ⟨_, rfl, q G5 H6 ((((f.trans f2).trans f3).trans f4).trans f5)⟩)
    | false => exact ⟨_, rfl, q G3 H4 ((f.trans f2).trans f3)⟩)
/-! arguments -/
theorem ea_nil : EvAD X [] σ H [] := fun H1 E t Q q => PA.b pa_nil (q [] H H1 (Fr.refl E t) .nil)
theorem ea_cons {ds : List PyData} (h : EvD X e σ H d) (h2 : EvAD X es σ H ds) (hs : starEach (e :: es) X.env = (false, eval e X.env) :: starEach es X.env := by rfl) : EvAD X (e :: es) σ H (d :: ds) := fun H1 E t Q q =>
  PA.b (pa_cons pe_b pa_b hs) (h H1 E t _ fun v G H2 f r => h2.mono f.g H2 f.g2 f.tok _ fun vs G2 H3 f2 s => q _ G2 H3 (f.trans f2) (.cons (f2.g.dp r) s))
theorem ev_lst {ds : List PyData} (h : EvAD X es σ H ds) (hl : ds.length ≤ 100000) : EvD X (.List es pos) σ H (.list ds) := fun H1 E t Q q =>
  PE.b (pe_lst pa_b) (h H1 E t _ fun vs G H2 f r => ⟨line_of (by rw [all_len r]; exact hl), fun p hp => q _ _ _ (f.new hp rfl) (.lst (.inl (.inl upd_same)) ((Ext.new (f.g2.fresh hp)).dps r))⟩)
theorem ev_tup {ds : List PyData} {x1} (h : EvAD X es σ H ds) (hl : ds.length ≤ 100000) : EvD X (.Tuple es x1 pos) σ H (.tuple ds) := fun H1 E t Q q =>
  PE.b (pe_tup pa_b) (h H1 E t _ fun vs G H2 f r => ⟨line_of (by rw [all_len r]; exact hl), fun p hp => q _ _ _ (f.new hp rfl) (.tup (.inl (.inl upd_same)) ((Ext.new (f.g2.fresh hp)).dps r))⟩)
end

/-! ### operations upon data -/
section
variable {X : Cx} {H : Hp}
theorem opd_I0 {f : Value → Value → Sem Value} {g : Int → Int → Int} (o : OpR X f (rI0 fun i j => .int (g i j))) {i j : Int} : OpD X f H (.int i) (.int j) (.int (g i j)) := fun G H1 _ E t x y hx hy Q q => by
  cases hx; cases hy
  exact OpR.b o ⟨i, j, rfl, rfl, q _ G H1 (Fr.refl E t) (.int _)⟩
theorem opd_I {f : Value → Value → Sem Value} {c : Int → Int → Prop} {g : Int → Int → Int} (o : OpR X f (rI c fun i j => .int (g i j))) {i j : Int} (hc : c i j) : OpD X f H (.int i) (.int j) (.int (g i j)) := fun G H1 _ E t x y hx hy Q q => by
  cases hx; cases hy
  exact OpR.b o ⟨i, j, rfl, rfl, hc, q _ G H1 (Fr.refl E t) (.int _)⟩
theorem opd_B0 {f : Value → Value → Sem Value} {g : Int → Int → Bool} (o : OpR X f (rI0 fun i j => .bl (g i j))) {i j : Int} : OpD X f H (.int i) (.int j) (.bool (g i j)) := fun G H1 _ E t x y hx hy Q q => by
  cases hx; cases hy
  exact OpR.b o ⟨i, j, rfl, rfl, q _ G H1 (Fr.refl E t) (.bl _)⟩
variable {i j : Int}
theorem opd_add : OpD X (binaryOp .Add) H (.int i) (.int j) (.int (i + j)) := opd_I0 op_add
theorem opd_sub : OpD X (binaryOp .Sub) H (.int i) (.int j) (.int (i - j)) := opd_I0 op_sub
theorem opd_mulL (h : i.natAbs < 2 ^ 64) : OpD X (binaryOp .Mult) H (.int i) (.int j) (.int (i * j)) := opd_I op_mul (.inl ⟨by omega, by omega⟩)
theorem opd_mulR (h : j.natAbs < 2 ^ 64) : OpD X (binaryOp .Mult) H (.int i) (.int j) (.int (i * j)) := opd_I op_mul (.inr ⟨by omega, by omega⟩)
theorem opd_div (h : 0 < j) (h2 : j < 1073741824) : OpD X (binaryOp .FloorDiv) H (.int i) (.int j) (.int (i / j)) := opd_I op_fdiv ⟨h, h2⟩
theorem opd_mod (h : 0 < j) : OpD X (binaryOp .Mod) H (.int i) (.int j) (.int (i % j)) := opd_I op_mod h
theorem opd_pow {n : Nat} (h : i.natAbs < 2 ^ 64) (hn : n ≤ 1000000) : OpD X (binaryOp .Pow) H (.int i) (.int n) (.int (i ^ n)) := by
  have q : OpD X (binaryOp .Pow) H (.int i) (.int (n : Int)) (.int (i ^ (n : Int).toNat)) := opd_I op_pow ⟨by omega, by omega, h⟩
  rw [Int.toNat_natCast] at q
  exact q
theorem opd_lt : OpD X (compareOp .Lt) H (.int i) (.int j) (.bool (decide (i < j))) := opd_B0 op_lt
theorem opd_le : OpD X (compareOp .LtE) H (.int i) (.int j) (.bool (decide (i ≤ j))) := opd_B0 op_le
theorem opd_gt : OpD X (compareOp .Gt) H (.int i) (.int j) (.bool (decide (j < i))) := opd_B0 op_gt
theorem opd_ge : OpD X (compareOp .GtE) H (.int i) (.int j) (.bool (decide (j ≤ i))) := opd_B0 op_ge
theorem opd_eqI : OpD X (compareOp .Eq) H (.int i) (.int j) (.bool (decide (i = j))) := fun G H1 _ E t x y hx hy Q q => by
  cases hx; cases hy
  have e : decide (V.int i = V.int j) = decide (i = j) := by rw [dec_int, Bool.beq_eq_decide_eq]
  exact OpR.b op_eq ⟨rfl, by rw [e]; exact q _ G H1 (Fr.refl E t) (.bl _)⟩
theorem opd_neI : OpD X (compareOp .NotEq) H (.int i) (.int j) (.bool (!decide (i = j))) := fun G H1 _ E t x y hx hy Q q => by
  cases hx; cases hy
  have e : decide (V.int i = V.int j) = decide (i = j) := by rw [dec_int, Bool.beq_eq_decide_eq]
  exact OpR.b op_ne ⟨rfl, by rw [e]; exact q _ G H1 (Fr.refl E t) (.bl _)⟩
theorem opd_eqS {x y : Str} : OpD X (compareOp .Eq) H (.str x) (.str y) (.bool (decide (x = y))) := fun G H1 _ E t _ _ hx hy Q q => by
  cases hx; cases hy
  have e : decide (V.str x = V.str y) = decide (x = y) := by by_cases h : x = y <;> simp [h]
  exact OpR.b op_eq ⟨rfl, by rw [e]; exact q _ G H1 (Fr.refl E t) (.bl _)⟩
theorem opd_neS {x y : Str} : OpD X (compareOp .NotEq) H (.str x) (.str y) (.bool (!decide (x = y))) := fun G H1 _ E t _ _ hx hy Q q => by
  cases hx; cases hy
  have e : decide (V.str x = V.str y) = decide (x = y) := by by_cases h : x = y <;> simp [h]
  exact OpR.b op_ne ⟨rfl, by rw [e]; exact q _ G H1 (Fr.refl E t) (.bl _)⟩
theorem opd_eqB {x y : Bool} : OpD X (compareOp .Eq) H (.bool x) (.bool y) (.bool (x == y)) := fun G H1 _ E t _ _ hx hy Q q => by
  cases hx; cases hy
  exact OpR.b op_eq ⟨rfl, by rw [dec_bl]; exact q _ G H1 (Fr.refl E t) (.bl _)⟩
theorem opd_neB {x y : Bool} : OpD X (compareOp .NotEq) H (.bool x) (.bool y) (.bool (!(x == y))) := fun G H1 _ E t _ _ hx hy Q q => by
  cases hx; cases hy
  exact OpR.b op_ne ⟨rfl, by rw [dec_bl]; exact q _ G H1 (Fr.refl E t) (.bl _)⟩
/-- == of data at any depth -/
theorem opd_eqD (hu : X.A.units + 64 < cLine) {d e : PyData} (sd : SeqAt.shaped d = true) (se : SeqAt.shaped e = true) : OpD X (compareOp .Eq) H d e (.bool (PyData.eqv d e)) := fun G H1 _ E t x y hx hy Q q =>
  OpR.b (op_eqD hu) ⟨d, e, E.dp hx, E.dp hy, sd, se, q _ G H1 (Fr.refl E t) (.bl _)⟩
theorem opd_neD (hu : X.A.units + 64 < cLine) {d e : PyData} (sd : SeqAt.shaped d = true) (se : SeqAt.shaped e = true) : OpD X (compareOp .NotEq) H d e (.bool (!PyData.eqv d e)) := fun G H1 _ E t x y hx hy Q q =>
  OpR.b (op_neD hu) ⟨d, e, E.dp hx, E.dp hy, sd, se, q _ G H1 (Fr.refl E t) (.bl _)⟩
def isNone : PyData → Bool
  | .none => true
  | _ => false
theorem dp_isNon {K : PySem.W.Frag} {H : Hp} {x : V} {d : PyData} (h : Dp K H x d) : decide (x = .non) = isNone d := by
  cases h <;> simp [isNone]
theorem opd_isN {d : PyData} : OpD X (compareOp .Is) H d .none (.bool (isNone d)) := fun G H1 _ E t x y hx hy Q q => by
  cases hy
  exact OpR.b op_isN ⟨rfl, by rw [dp_isNon hx]; exact q _ G H1 (Fr.refl E t) (.bl _)⟩
theorem opd_notN {d : PyData} : OpD X (compareOp .IsNot) H d .none (.bool (!isNone d)) := fun G H1 _ E t x y hx hy Q q => by
  cases hy
  exact OpR.b op_notN ⟨rfl, by rw [dp_isNon hx]; exact q _ G H1 (Fr.refl E t) (.bl _)⟩
theorem opd_catS {x y : Str} (h : x.length + y.length ≤ sizeLine) : OpD X (binaryOp .Add) H (.str x) (.str y) (.str (x ++ y)) := fun G H1 _ E t _ _ hx hy Q q => by
  cases hx; cases hy
  exact OpR.b op_add_str ⟨x, y, rfl, rfl, h, q _ G H1 (Fr.refl E t) (.str _)⟩
end

/-! ### the footprint: a tree of data whose lists are tracked, each at a place of its own -/
mutual
inductive Own (K : PySem.W.Frag) (H : Hp) : V → PyData → List Addr → Prop
  | non : Own K H .non .none []
  | bl (b : Bool) : Own K H (.bl b) (.bool b) []
  | int (i : Int) : Own K H (.int i) (.int i) []
  | str (x : Str) : Own K H (.str x) (.str x) []
  | lst {a : Addr} {xs : List V} {ds : List PyData} {fp : List Addr} : H a = some (.lst xs) → Owns K H xs ds fp → Own K H (.ref a) (.list ds) (a :: fp)
  | tup {a : Addr} {xs : List V} {ds : List PyData} {fp : List Addr} : SqT K H a xs → Owns K H xs ds fp → Own K H (.ref a) (.tuple ds) fp
inductive Owns (K : PySem.W.Frag) (H : Hp) : List V → List PyData → List Addr → Prop
  | nil : Owns K H [] [] []
  | cons {v : V} {vs : List V} {d : PyData} {ds : List PyData} {f g : List Addr} : Own K H v d f → Owns K H vs ds g → Owns K H (v :: vs) (d :: ds) (f ++ g)
end
section
variable {K : PySem.W.Frag} {H H' : Hp}
mutual
theorem Own.dp : ∀ (d : PyData) (v : V) (fp : List Addr), Own K H v d fp → Dp K H v d
  | _, _, _, .non => .non
  | _, _, _, .bl b => .bl b
  | _, _, _, .int i => .int i
  | _, _, _, .str x => .str x
  | .list ds, _, _, .lst h q => .lst (.inl (.inl h)) (Owns.dp ds _ _ q)
  | .tuple ds, _, _, .tup h q => .tup h (Owns.dp ds _ _ q)
theorem Owns.dp : ∀ (ds : List PyData) (vs : List V) (fp : List Addr), Owns K H vs ds fp → DpAll K H vs ds
  | _, _, _, .nil => .nil
  | d :: ds, _, _, .cons h q => .cons (Own.dp d _ _ h) (Owns.dp ds _ _ q)
end
mutual
/-- what is at the footprint and what is a tuple stays -/
theorem Own.stay {fp : List Addr} (hl : ∀ a xs, H a = some (.lst xs) → a ∈ fp → H' a = some (.lst xs)) (ht : ∀ a xs, SqT K H a xs → SqT K H' a xs) : ∀ (d : PyData) (v : V) (f : List Addr), Own K H v d f → (∀ a ∈ f, a ∈ fp) → Own K H' v d f
  | _, _, _, .non, _ => .non
  | _, _, _, .bl b, _ => .bl b
  | _, _, _, .int i, _ => .int i
  | _, _, _, .str x, _ => .str x
  | .list ds, _, _, .lst h q, s => .lst (hl _ _ h (s _ (List.mem_cons_self ..))) (Owns.stay hl ht ds _ _ q fun a m => s a (List.mem_cons_of_mem _ m))
  | .tuple ds, _, _, .tup h q, s => .tup (ht _ _ h) (Owns.stay hl ht ds _ _ q s)
theorem Owns.stay {fp : List Addr} (hl : ∀ a xs, H a = some (.lst xs) → a ∈ fp → H' a = some (.lst xs)) (ht : ∀ a xs, SqT K H a xs → SqT K H' a xs) : ∀ (ds : List PyData) (vs : List V) (f : List Addr), Owns K H vs ds f → (∀ a ∈ f, a ∈ fp) → Owns K H' vs ds f
  | _, _, _, .nil, _ => .nil
  | d :: ds, _, _, .cons h q, s => .cons (Own.stay hl ht d _ _ h fun a m => s a (List.mem_append_left _ m)) (Owns.stay hl ht ds _ _ q fun a m => s a (List.mem_append_right _ m))
end
theorem Own.ext {d : PyData} {v : V} {fp : List Addr} (e : Ext H H') (h : Own K H v d fp) : Own K H' v d fp := Own.stay (fp := fp) (fun _ _ q _ => e.keep _ _ q rfl) (fun _ _ q => e.t q) d v fp h fun _ m => m
theorem Owns.ext {d : List PyData} {v : List V} {fp : List Addr} (e : Ext H H') (h : Owns K H v d fp) : Owns K H' v d fp := Owns.stay (fp := fp) (fun _ _ q _ => e.keep _ _ q rfl) (fun _ _ q => e.t q) d v fp h fun _ m => m
mutual
theorem Own.dom : ∀ (d : PyData) (v : V) (f : List Addr), Own K H v d f → ∀ a ∈ f, ∃ xs, H a = some (.lst xs)
  | _, _, _, .non, _, m => nomatch m
  | _, _, _, .bl b, _, m => nomatch m
  | _, _, _, .int i, _, m => nomatch m
  | _, _, _, .str x, _, m => nomatch m
  | .list ds, _, _, .lst h q, a, m => by
    rcases List.mem_cons.mp m with e | m
    · exact ⟨_, e ▸ h⟩
    · exact Owns.dom ds _ _ q a m
  | .tuple ds, _, _, .tup h q, a, m => Owns.dom ds _ _ q a m
theorem Owns.dom : ∀ (ds : List PyData) (vs : List V) (f : List Addr), Owns K H vs ds f → ∀ a ∈ f, ∃ xs, H a = some (.lst xs)
  | _, _, _, .nil, _, m => nomatch m
  | d :: ds, _, _, .cons h q, a, m => by
    rcases List.mem_append.mp m with m | m
    · exact Own.dom d _ _ h a m
    · exact Owns.dom ds _ _ q a m
end
/-- a store at a place that is not in the footprint -/
theorem Own.upd_out {d : PyData} {v : V} {fp : List Addr} {a : Addr} {o : HO} (h : Own K H v d fp) (n : a ∉ fp) (ha : ∃ xs, H a = some (.lst xs)) : Own K (upd H a o) v d fp :=
  Own.stay (fp := fp) (fun b xs q m => by rw [upd_ne (fun z : b = a => n (by rw [← z]; exact m))]; exact q) (fun b xs q => by
    obtain ⟨ys, ha⟩ := ha
    rcases q with q | q
    · rcases q with q | ⟨ob, q⟩
      · exact .inl (.inl (by rw [upd_ne (ne_of q ha (fun z => nomatch z))]; exact q))
      · exact .inl (.inr ⟨ob, by rw [upd_ne (ne_of q ha (fun z => nomatch z))]; exact q⟩)
    · exact .inr q) d v fp h fun _ m => m
end

/-! ### calls -/
/-- a built-in called by values -/
def bC (X : Cx) (f : Value) : List V → Hp → VK → Prop := fun vs H Q => ∀ pins s σ us, Inv X pins σ H s → Vals vs us → wpAny (model X.prog X.w) X.A (call f us) (EP X pins σ Q) X.xe s
theorem cr_b {X : Cx} {f : Value} : CallR X f (bC X f) := fun pins s σ _ _ us _ I r h => h pins s σ us I r
theorem CallR.b {X : Cx} {f : Value} {r : List V → Hp → VK → Prop} (o : CallR X f r) {vs : List V} {H : Hp} {Q : VK} (h : r vs H Q) : bC X f vs H Q := fun pins s σ us I rv => o pins s σ H vs us Q I rv h
def CallD (X : Cx) (f : Value) (H : Hp) (ds : List PyData) (d : PyData) : Prop := ∀ G H1, Ext H G → Ext G H1 → TabsOk X.K H1 → ∀ vs, DpAll X.K G vs ds → ∀ Q : VK, (∀ z G' H2, Fr X.K G H1 G' H2 → Dp X.K G' z d → Q z H2) → bC X f vs H1 Q
/-- a method of a built-in type by values -/
def bM (X : Cx) (id : String) : V → List V → Hp → VK → Prop := fun x vs H Q => ∀ pins s σ v us, Inv X pins σ H s → RelV x v → Vals vs us → wpAny (model X.prog X.w) X.A (call (.builtin id) (v :: us)) (EP X pins σ Q) X.xe s
theorem mr_b {X : Cx} {id : String} : MtR X id (bM X id) := fun pins s σ _ _ _ v us _ I r r2 h => h pins s σ v us I r r2
theorem MtR.b {X : Cx} {id : String} {r : V → List V → Hp → VK → Prop} (o : MtR X id r) {x : V} {vs : List V} {H : Hp} {Q : VK} (h : r x vs H Q) : bM X id x vs H Q := fun pins s σ v us I rx rv => o pins s σ H x vs v us Q I rx rv h
/-- a subscript by values -/
def bI (X : Cx) : R2 := fun x y H Q => ∀ (value slice : Expr) pins s σ v u, Inv X pins σ H s → RelV x v → RelV y u → subscripted slice false v u = operate [v, u] (getItem v u) → wpAny (model X.prog X.w) X.A (subscriptTail value slice v u) (EP X pins σ Q) X.xe s
theorem ir_b {X : Cx} : IxR X (bI X) := fun a b pins s σ _ _ _ v u _ I rx ry h hs => h a b pins s σ v u I rx ry hs
theorem IxR.b {X : Cx} {r : R2} (o : IxR X r) {x y : V} {H : Hp} {Q : VK} (h : r x y H Q) : bI X x y H Q := fun a b pins s σ v u I rx ry hs => o a b pins s σ H x y v u Q I rx ry h hs
/-- a def's promise: from such data comes such data (R), while T stands -/
def SpR (K : PySem.W.Frag) (T : Hp → Prop) (R : List PyData → PyData → Prop) : Sp := fun vs H Q _ => ∃ G ds d, Ext G H ∧ TabsOk K H ∧ DpAll K G vs ds ∧ T G ∧ R ds d ∧ ∀ v G' H2, Fr K G H G' H2 → Dp K G' v d → Q v H2
/-- .. comes new data, each list at a new place of its own -/
def SpN (K : PySem.W.Frag) (T : Hp → Prop) (R : List PyData → PyData → Prop) : Sp := fun vs H Q _ => ∃ G ds d, Ext G H ∧ TabsOk K H ∧ DpAll K G vs ds ∧ T G ∧ R ds d ∧ ∀ v G' H2 fp, Fr K G H G' H2 → Own K G' v d fp → fp.Nodup → (∀ a ∈ fp, G a = none) → Q v H2
section
variable {X : Cx} {σ : L2.St} {H H' : Hp} {e a b c : Expr} {es : List Expr} {d d1 d2 d3 : PyData} {ds : List PyData} {v x y : V} {pos p apos : Pos} {k l : Bool} {n id T : String} {nm : Str}
theorem ev_callB (ha : EvAD X (e :: es) σ H ds) (hc : CallD X (.builtin id) H ds d) (hg : Gl X n) (hm : X.mg n = none) (hv : bootBuiltins n = some (.builtin id)) (hn : (n : Str) ≠ "__name__" := by decide) (hdb : ((n : Str) == ("__debug__" : Str)) = false := by decide)
    (he : starEach (e :: es) X.env = (false, eval e X.env) :: starEach es X.env := by rfl) (hpl : (backTo pos (starEach es X.env)).any (·.1) = false := by rfl) : EvD X (.Call (.Name n p) (e :: es) [] pos) σ H d := fun H1 E t Q q =>
  PE.b (pe_callB cr_b hg hm hv pa_b hn hdb he hpl) (ha H1 E t _ fun vs G H2 f r => hc G H2 f.g f.g2 f.tok vs r Q fun z G2 H3 f2 s => q z G2 H3 (f.trans f2) s)
theorem ev_callTy (ha : EvAD X (e :: es) σ H ds) (hc : CallD X (.type T) H ds d) (hg : Gl X n) (hm : X.mg n = none) (hv : bootBuiltins n = some (.type T)) (hn : (n : Str) ≠ "__name__" := by decide) (hdb : ((n : Str) == ("__debug__" : Str)) = false := by decide)
    (he : starEach (e :: es) X.env = (false, eval e X.env) :: starEach es X.env := by rfl) (hpl : (backTo pos (starEach es X.env)).any (·.1) = false := by rfl) : EvD X (.Call (.Name n p) (e :: es) [] pos) σ H d := fun H1 E t Q q =>
  PE.b (pe_callTy cr_b hg hm hv pa_b hn hdb he hpl) (ha H1 E t _ fun vs G H2 f r => hc G H2 f.g f.g2 f.tok vs r Q fun z G2 H3 f2 s => q z G2 H3 (f.trans f2) s)
/-- o.m(e, ..) of a built-in type that changes nothing -/
theorem ev_bm (pa : PlainAttrs T) (slot : Slot T nm id) (hty : typeOf (.builtin id) = pure (.type "method_descriptor")) (ho : EvD X b σ H d1) (ha : EvAD X (e :: es) σ H ds)
    (ht : ∀ H1 x, Dp X.K H1 x d1 → tyV X.K T x H1) (hc : ∀ G H1, Ext H G → Ext G H1 → TabsOk X.K H1 → ∀ x vs, Dp X.K G x d1 → DpAll X.K G vs ds → ∀ Q : VK, (∀ z G' H2, Fr X.K G H1 G' H2 → Dp X.K G' z d → Q z H2) → bM X id x vs H1 Q)
    (hbase : attributeBase b nm X.env (eval b X.env) = eval b X.env := by rfl)
    (hfew : ((backTo pos (starEach (e :: es) X.env)).all (fun x => !x.1) && (backToKw pos (keywordEach [] X.env)).all (fun x => x.1.isSome)
      && decide ((e :: es).length + ([] : List Keyword).length + (if ([] : List Keyword).isEmpty then 0 else 1) < 30)) = true := by rfl)
    (hline : (apos.endLine == pos.line) = true := by rfl) (hs : starEach (e :: es) X.env = (false, eval e X.env) :: starEach es X.env := by rfl) (hplain : (backTo pos (starEach es X.env)).any (·.1) = false := by rfl) :
    EvD X (.Call (.Attribute b nm apos) (e :: es) [] pos) σ H d := fun H1 E t Q q =>
  PE.b (pe_bm pa slot hty mr_b pe_b pa_b hbase hfew hline hs hplain) (ho H1 E t _ fun x G H2 f r => ⟨ht H2 x (f.g2.dp r), ha.mono f.g H2 f.g2 f.tok _ fun vs G2 H3 f2 s => hc G2 H3 (f.trans f2).g f2.g2 f2.tok x vs (f2.g.dp r) s Q fun z G3 H4 f3 t => q z G3 H4 ((f.trans f2).trans f3) t⟩)
theorem ev_ix (ha : EvD X a σ H d1) (hb : EvD X b σ H d2) (hi : ∀ G H1, Ext H G → Ext G H1 → ∀ x y, Dp X.K G x d1 → Dp X.K G y d2 → ∀ Q : VK, (∀ z, Dp X.K G z d3 → Q z H1) → bI X x y H1 Q) (hs : PlainIx b := by exact fun _ _ => rfl) : EvD X (.Subscript a b pos) σ H d3 := fun H1 E t Q q =>
  PE.b (pe_ix ir_b pe_b pe_b hs) (ha H1 E t _ fun x G H2 f r => hb.mono f.g H2 f.g2 f.tok _ fun y G2 H3 f2 s => hi G2 H3 (f.trans f2).g f2.g2 x y (f2.g.dp r) s Q fun z t => q z G2 H3 (f.trans f2) t)
theorem all_get {K : PySem.W.Frag} {H : Hp} : ∀ {vs : List V} {ds : List PyData}, DpAll K H vs ds → ∀ {i : Nat} {d : PyData}, ds[i]? = some d → ∃ v, vs[i]? = some v ∧ Dp K H v d
  | _, _, .nil, _, _, h => by simp at h
  | _, _, .cons r _, 0, _, h => by simp at h; subst h; exact ⟨_, rfl, r⟩
  | _, _, .cons _ q, i + 1, _, h => by
    obtain ⟨v, h1, h2⟩ := all_get q (i := i) (by simpa using h)
    exact ⟨v, by simpa using h1, h2⟩
theorem all_atI {K : PySem.W.Frag} {H : Hp} {vs : List V} {ds : List PyData} (r : DpAll K H vs ds) {i : Int} {d : PyData} (h : atI ds i = some d) : ∃ v, atI vs i = some v ∧ Dp K H v d := by
  unfold atI at h ⊢
  rw [all_len r]
  cases q : ixN ds.length i with
  | none => rw [q] at h; cases h
  | some j =>
    rw [q] at h
    exact all_get r h
theorem ix_l {ds : List PyData} {i : Int} (h : atI ds i = some d) : ∀ G H1, Ext H G → Ext G H1 → ∀ x y, Dp X.K G x (.list ds) → Dp X.K G y (.int i) → ∀ Q : VK, (∀ z, Dp X.K G z d → Q z H1) → bI X x y H1 Q := fun G H1 _ E x y hx hy Q q => by
  cases hy
  cases hx with
  | lst hs r =>
    obtain ⟨v, h1, h2⟩ := all_atI r h
    exact IxR.b ix_list ⟨_, _, _, _, rfl, rfl, E.l hs, h1, q _ h2⟩
theorem ix_t {ds : List PyData} {i : Int} (h : atI ds i = some d) : ∀ G H1, Ext H G → Ext G H1 → ∀ x y, Dp X.K G x (.tuple ds) → Dp X.K G y (.int i) → ∀ Q : VK, (∀ z, Dp X.K G z d → Q z H1) → bI X x y H1 Q := fun G H1 _ E x y hx hy Q q => by
  cases hy
  cases hx with
  | tup hs r =>
    obtain ⟨v, h1, h2⟩ := all_atI r h
    exact IxR.b ix_tup ⟨_, _, _, _, rfl, rfl, E.t hs, h1, q _ h2⟩
theorem ix_s {z : Str} {i : Int} {c : Nat} (hl : z.length ≤ sizeLine) (h : atI z.cps.toList i = some c) : ∀ G H1, Ext H G → Ext G H1 → ∀ x y, Dp X.K G x (.str z) → Dp X.K G y (.int i) → ∀ Q : VK, (∀ u, Dp X.K G u (.str ⟨#[c]⟩) → Q u H1) → bI X x y H1 Q := fun G H1 _ E x y hx hy Q q => by
  cases hy
  cases hx
  exact IxR.b ix_str ⟨z, i, c, rfl, rfl, hl, h, q _ (.str _)⟩
/-! a def of the program called -/
theorem ev_call {CX : CXT} {k : Nat} {f : Addr} {fd : FuncData} {ps : List Str} {T : Hp → Prop} {R : List PyData → PyData → Prop} {E : XK} {nm : Str} (F : FnOk X.prog X.w X.K X.mg X.base CX k f fd ps (SpR X.K T R)) (hr : Room k X.A) (hg : Gl X nm) (hm : X.mg nm = some (.ref f)) (hk : PySem.W.keepIn X.K (.ref f) = true) (hb : Binds X.K fd ps [])
    (hx : Passes CX X E) (ha : EvAD X (e :: es) σ H ds) (hR : R ds d) (hT : ∀ H1, Ext H H1 → T H1) (hdb : (nm == ("__debug__" : Str)) = false := by decide) (he : starEach (e :: es) X.env = (false, eval e X.env) :: starEach es X.env := by rfl) (hpl : (backTo pos (starEach es X.env)).any (·.1) = false := by rfl) :
    EvD X (.Call (.Name nm p) (e :: es) [] pos) σ H d := fun H1 E1 t Q q =>
  PE.b (pe_call F hr hg hm hk hb .nil hx pa_b hdb he hpl) (ha H1 E1 t _ fun vs G H2 f r => by
    refine ⟨G, ds, d, f.g2, f.tok, ?_, hT _ f.g, hR, fun v G2 H3 f2 s => q v G2 H3 (f.trans f2) s⟩
    rw [List.append_nil]
    exact r)
theorem ev_callN {CX : CXT} {k : Nat} {f : Addr} {fd : FuncData} {ps : List Str} {T : Hp → Prop} {R : List PyData → PyData → Prop} {E : XK} {nm : Str} (F : FnOk X.prog X.w X.K X.mg X.base CX k f fd ps (SpN X.K T R)) (hr : Room k X.A) (hg : Gl X nm) (hm : X.mg nm = some (.ref f)) (hk : PySem.W.keepIn X.K (.ref f) = true) (hb : Binds X.K fd ps [])
    (hx : Passes CX X E) (ha : EvAD X (e :: es) σ H ds) (hR : R ds d) (hT : ∀ H1, Ext H H1 → T H1) (hdb : (nm == ("__debug__" : Str)) = false := by decide) (he : starEach (e :: es) X.env = (false, eval e X.env) :: starEach es X.env := by rfl) (hpl : (backTo pos (starEach es X.env)).any (·.1) = false := by rfl) :
    Ev X (.Call (.Name nm p) (e :: es) [] pos) σ H (fun v G => ∃ fp, Own X.K G v d fp ∧ fp.Nodup ∧ ∀ a ∈ fp, H a = none) := fun H1 E1 t Q q =>
  PE.b (pe_call F hr hg hm hk hb .nil hx pa_b hdb he hpl) (ha H1 E1 t _ fun vs G H2 f r => by
    refine ⟨G, ds, d, f.g2, f.tok, ?_, hT _ f.g, hR, fun v G2 H3 fp f2 s n z => q v G2 H3 (f.trans f2) ⟨fp, s, n, fun a m => f.g.fresh (z a m)⟩⟩
    rw [List.append_nil]
    exact r)
end

/-! ### statements -/
section
variable {X : Cx} {σ : L2.St} {H H' Hb : Hp} {e a b c : Expr} {es : List Expr} {sts s1 s2 : List Stmt} {d d1 d2 d3 : PyData} {ds : List PyData} {v x y : V} {pos p apos : Pos} {k l : Bool} {D : Ends}
theorem bb_nil (q : D.nx σ H) : bB X [] D σ H := PSs.b pss_nil q
theorem bb_cons {st : Stmt} (q : bS X st { D with nx := bB X sts D } σ H) : bB X (st :: sts) D σ H := PSs.b (pss_cons ps_b pss_b) q
/-- x = e, evaluated upon the base Hb -/
theorem bs_set (i : Nat) (hN : X.N.Nodup) {n : Str} {pos' : Pos} {P : VP} (h : Ev X e σ Hb P) (B : Ext Hb H) (t : TabsOk X.K H) (q : ∀ v G H2, Fr X.K Hb H G H2 → P v G → D.nx (σ.set i (some v)) H2) (hi : X.N[i]? = some n := by rfl)
    (hx : Loc X.env.scope n := by first | exact Or.inl rfl | exact Or.inr rfl) (hs : swapsWith e (some (.Name n pos')) pos.line X.env = pure false := by rfl) (hf : X.fn n = true ∨ X.env.scope.names.lookup n = some .local := by first | exact .inl rfl | exact .inr rfl) :
    bS X (.Assign [.Name n pos'] e pos) D σ H := PS.b (ps_set hN hi hx pe_b hs hf) (h H B t _ fun v G H2 f r => q v G H2 f r)
theorem bs_ret {P : VP} (h : Ev X e σ Hb P) (B : Ext Hb H) (t : TabsOk X.K H) (q : ∀ v G H2, Fr X.K Hb H G H2 → P v G → D.rt v H2) : bS X (.Return (some e) pos) D σ H := PS.b (ps_ret pe_b) (h H B t _ fun v G H2 f r => q v G H2 f r)
theorem bs_expr {P : VP} (h : Ev X e σ Hb P) (B : Ext Hb H) (t : TabsOk X.K H) (q : ∀ v G H2, Fr X.K Hb H G H2 → P v G → D.nx σ H2) (hs : swapsWith e none pos.line X.env = pure false := by rfl) : bS X (.Expr e pos) D σ H := PS.b (ps_expr pe_b hs) (h H B t _ fun v G H2 f r => q v G H2 f r)
theorem bs_if (h : EvT X c σ Hb k) (B : Ext Hb H) (t : TabsOk X.K H) (q1 : k = true → ∀ G H2, Fr X.K Hb H G H2 → bB X s1 D σ H2) (q2 : k = false → ∀ G H2, Fr X.K Hb H G H2 → bB X s2 D σ H2) : bS X (.If c s1 s2 pos) D σ H :=
  PS.b (ps_if pt_b pss_b pss_b) (h H B t _ fun G H2 f => by
    cases k with
    | true => exact q1 rfl G H2 f
    | false => exact q2 rfl G H2 f)
theorem bs_pass (q : D.nx σ H) : bS X (.Pass pos) D σ H := PS.b ps_pass q
/-- a for over a list at a known place; Pv: the turn, the slots, the heap -/
theorem bs_forL {i : Nat} {n : Str} {p0 : Pos} {iter : Expr} {body : List Stmt} {ad : Addr} {xs : List V} (Pv : Nat → L2.St → Hp → Prop) (h : EvV X iter σ Hb (.ref ad)) (B : Ext Hb H) (t : TabsOk X.K H) (hx : ∀ G, Ext Hb G → SqL X.K G ad xs)
    (h0 : ∀ G H2, Fr X.K Hb H G H2 → Pv 0 σ H2) (hl : ∀ j σ' H', j ≤ xs.length → Pv j σ' H' → SqL X.K H' ad xs)
    (hs : ∀ j x σ' H', xs[j]? = some x → Pv j σ' H' → bB X body { D with nx := Pv (j + 1), ct := Pv (j + 1), bk := D.nx } (σ'.set i (some x)) H') (hd : ∀ σ' H', Pv xs.length σ' H' → D.nx σ' H')
    (hp : PassesOwn (model X.prog X.w) X.A X.env X.xe) (hN : X.N.Nodup) (hc : X.calm = true := by rfl) (hi : X.N[i]? = some n := by rfl)
    (hn : Loc X.env.scope n := by first | exact Or.inl rfl | exact Or.inr rfl) (hf : X.fn n = true ∨ X.env.scope.names.lookup n = some .local := by first | exact .inl rfl | exact .inr rfl) (hfs : ∀ x, foldedSetIterable iter X.env x = pure x := by intro _; rfl) : bS X (.For (.Name n p0) iter body [] pos) D σ H :=
  PS.b (ps_for hp hc (pi_list pe_b) (pg_name hN hi hn hf) pss_b hfs) (h H B t _ fun v G H2 f e => ⟨ad, e, ⟨xs, f.g2.l (hx G f.g)⟩, L2.for_list Pv (h0 G H2 f) hl hs hd⟩)
/-- a for over range(n) -/
theorem bs_forR {i : Nat} {n : Str} {p0 p1 p2 : Pos} {m : Expr} {body : List Stmt} {N : Int} (Pv : Nat → L2.St → Hp → Prop) (h : EvD X m σ Hb (.int N)) (B : Ext Hb H) (t : TabsOk X.K H) (h1 : -(2 ^ 62) ≤ N) (h2 : N < 2 ^ 62)
    (h0 : ∀ G H2, Fr X.K Hb H G H2 → Pv 0 σ H2)
    (hs : ∀ (j : Nat) σ' H', (j : Int) < N → Pv j σ' H' → bB X body { D with nx := Pv (j + 1), ct := Pv (j + 1), bk := D.nx } (σ'.set i (some (.int (j : Int)))) H') (hd : ∀ σ' H', Pv N.toNat σ' H' → D.nx σ' H')
    (hp : PassesOwn (model X.prog X.w) X.A X.env X.xe) (hm : X.mg "range" = none) (hN : X.N.Nodup) (hg : Gl X "range" := by rfl) (hc : X.calm = true := by rfl) (hi : X.N[i]? = some n := by rfl)
    (hn : Loc X.env.scope n := by first | exact Or.inl rfl | exact Or.inr rfl) (hf : X.fn n = true ∨ X.env.scope.names.lookup n = some .local := by first | exact .inl rfl | exact .inr rfl) (hst : starEach [m] X.env = [(false, eval m X.env)] := by rfl) : bS X (.For (.Name n p0) (.Call (.Name "range" p1) [m] [] p2) body [] pos) D σ H :=
  PS.b (ps_for hp hc (pi_range1 hg hm (pa_cons pe_b pa_nil hst) hst) (pg_name hN hi hn hf) pss_b) (h H B t _ fun v G H2 f e => by
    cases e
    refine ⟨N, rfl, h1, h2, L2.for_range (lo := 0) (n := N.toNat) Pv (h0 G H2 f) (fun j σ' H' hj p => ?_) hd⟩
    have e0 : (0 : Int) + (j : Int) = (j : Int) := Int.zero_add _
    show bB X body { D with nx := Pv (j + 1), ct := Pv (j + 1), bk := D.nx } (σ'.set i (some (.int ((0 : Int) + (j : Int))))) H'
    rw [e0]
    exact hs j σ' H' (by omega) p)
end
end C

namespace C
open PySem L2
open PyProof.Rows (subscriptTail)

/-! ### lists of data of known length -/
section
variable {K : PySem.W.Frag} {H : Hp}
theorem all0 {vs : List V} (h : DpAll K H vs []) : vs = [] := by cases h; rfl
theorem allc {vs : List V} {d : PyData} {ds : List PyData} (h : DpAll K H vs (d :: ds)) : ∃ v us, vs = v :: us ∧ Dp K H v d ∧ DpAll K H us ds := by
  cases h with
  | cons a b => exact ⟨_, _, rfl, a, b⟩
theorem all1 {vs : List V} {a : PyData} (h : DpAll K H vs [a]) : ∃ x, vs = [x] ∧ Dp K H x a := by
  obtain ⟨x, us, rfl, h1, h2⟩ := allc h
  cases all0 h2
  exact ⟨x, rfl, h1⟩
theorem all2 {vs : List V} {a b : PyData} (h : DpAll K H vs [a, b]) : ∃ x y, vs = [x, y] ∧ Dp K H x a ∧ Dp K H y b := by
  obtain ⟨x, us, rfl, h1, h2⟩ := allc h
  obtain ⟨y, rfl, h3⟩ := all1 h2
  exact ⟨x, y, rfl, h1, h3⟩
theorem all3 {vs : List V} {a b c : PyData} (h : DpAll K H vs [a, b, c]) : ∃ x y z, vs = [x, y, z] ∧ Dp K H x a ∧ Dp K H y b ∧ Dp K H z c := by
  obtain ⟨x, us, rfl, h1, h2⟩ := allc h
  obtain ⟨y, z, rfl, h3, h4⟩ := all2 h2
  exact ⟨x, y, z, rfl, h1, h3, h4⟩
theorem all4 {vs : List V} {a b c d : PyData} (h : DpAll K H vs [a, b, c, d]) : ∃ x y z u, vs = [x, y, z, u] ∧ Dp K H x a ∧ Dp K H y b ∧ Dp K H z c ∧ Dp K H u d := by
  obtain ⟨x, us, rfl, h1, h2⟩ := allc h
  obtain ⟨y, z, u, rfl, h3⟩ := all3 h2
  exact ⟨x, y, z, u, rfl, h1, h3⟩
theorem all5 {vs : List V} {a b c d e : PyData} (h : DpAll K H vs [a, b, c, d, e]) : ∃ x y z u v, vs = [x, y, z, u, v] ∧ Dp K H x a ∧ Dp K H y b ∧ Dp K H z c ∧ Dp K H u d ∧ Dp K H v e := by
  obtain ⟨x, us, rfl, h1, h2⟩ := allc h
  obtain ⟨y, z, u, v, rfl, h3⟩ := all4 h2
  exact ⟨x, y, z, u, v, rfl, h1, h3⟩
theorem dp_int {v : V} {i : Int} (h : Dp K H v (.int i)) : v = .int i := by cases h; rfl
theorem dp_str {v : V} {i : Str} (h : Dp K H v (.str i)) : v = .str i := by cases h; rfl
theorem dp_bl {v : V} {i : Bool} (h : Dp K H v (.bool i)) : v = .bl i := by cases h; rfl
theorem dp_non {v : V} (h : Dp K H v .none) : v = .non := by cases h; rfl
theorem dp_lst {v : V} {ds : List PyData} (h : Dp K H v (.list ds)) : ∃ a xs, v = .ref a ∧ SqL K H a xs ∧ DpAll K H xs ds := by
  cases h with
  | lst a b => exact ⟨_, _, rfl, a, b⟩
theorem dp_tup {v : V} {ds : List PyData} (h : Dp K H v (.tuple ds)) : ∃ a xs, v = .ref a ∧ SqT K H a xs ∧ DpAll K H xs ds := by
  cases h with
  | tup a b => exact ⟨_, _, rfl, a, b⟩
end

/-! ### isinstance -/
def tyName : PyData → String
  | .none => "NoneType"
  | .bool _ => "bool"
  | .int _ => "int"
  | .str _ => "str"
  | .list _ => "list"
  | .tuple _ => "tuple"
  | .dict _ => "dict"
theorem tyx_of {K : PySem.W.Frag} {H : Hp} {x : V} {d : PyData} (h : Dp K H x d) : TyX K H x (.type (tyName d)) := by
  cases h with
  | non => exact .base .non
  | bl b => exact .base (.bl b)
  | int i => exact .base (.int i)
  | str x => exact .base (.str x)
  | lst hs _ =>
    rcases hs with (hs | ⟨o, hs⟩) | ⟨o, _, _, h1, h2, _⟩
    · exact .base (.lst hs)
    · exact .base (.frz hs)
    · exact .kList h1 h2
  | tup hs _ =>
    rcases hs with (hs | ⟨o, hs⟩) | ⟨o, _, _, h1, h2, _⟩
    · exact .base (.tup hs)
    · exact .fTuple hs
    · exact .kTuple h1 h2
section
variable {X : Cx} {σ : L2.St} {H H' Hb : Hp} {e a b c : Expr} {es : List Expr} {sts s1 s2 : List Stmt} {d d1 d2 d3 : PyData} {ds : List PyData} {v x y : V} {pos p p2 apos : Pos} {k l : Bool} {D : Ends} {T : String}
theorem ev_isi (ha : EvD X a σ H d) (hk : kitB (tyName d) T = some k) (hm : X.mg "isinstance" = none) (hmT : X.mg T = none) (hv : bootBuiltins T = some (.type T)) (hg : Gl X "isinstance" := by rfl) (hgT : Gl X T := by rfl)
    (hn : (T : Str) ≠ "__name__" := by decide) (hd : ((T : Str) == ("__debug__" : Str)) = false := by decide)
    (he : starEach [a, .Name T p2] X.env = (false, eval a X.env) :: starEach [.Name T p2] X.env := by rfl) (he2 : starEach [.Name T p2] X.env = [(false, eval (.Name T p2) X.env)] := by rfl) (hpl : (backTo pos (starEach [.Name T p2] X.env)).any (·.1) = false := by rfl) :
    EvD X (.Call (.Name "isinstance" p) [a, .Name T p2] [] pos) σ H (.bool k) := fun H1 E t Q q =>
  PE.b (pe_callB call_isi hg hm (by decide +kernel) (pa_cons pe_b (pa_cons (pe_bltn (v := .ty T) hgT hmT hv rfl hn hd) pa_nil he2) he) (by decide) (by decide) he hpl)
    (ha H1 E t _ fun v G H2 f r => ⟨v, .ty T, _, _, k, rfl, .ty T, tyx_of (f.g2.dp r), kit_ty hk, q _ G H2 f (.bl k)⟩)
/-! ### len -/
theorem cd_lenL : CallD X (.builtin "len") H [.list ds] (.int (ds.length : Int)) := fun G H1 _ E t vs h Q q => by
  cases h with
  | cons h r =>
    cases r
    cases h with
    | lst hs r => exact CallR.b call_len_seq ⟨_, _, rfl, .inl (E.l hs), by rw [all_len r]; exact q _ G H1 (Fr.refl E t) (.int _)⟩
theorem cd_lenT : CallD X (.builtin "len") H [.tuple ds] (.int (ds.length : Int)) := fun G H1 _ E t vs h Q q => by
  cases h with
  | cons h r =>
    cases r
    cases h with
    | tup hs r => exact CallR.b call_len_seq ⟨_, _, rfl, .inr (E.t hs), by rw [all_len r]; exact q _ G H1 (Fr.refl E t) (.int _)⟩
theorem cd_lenS {z : Str} (hz : z.length ≤ sizeLine) : CallD X (.builtin "len") H [.str z] (.int (z.length : Int)) := fun G H1 _ E t vs h Q q => by
  cases h with
  | cons h r =>
    cases r
    cases h
    exact CallR.b call_len_str ⟨z, rfl, hz, q _ G H1 (Fr.refl E t) (.int _)⟩
/-! ### x in a tuple -/
theorem opd_inT (hu : X.A.units + 65 < cLine) {d : PyData} {ds : List PyData} (sd : SeqAt.shaped d = true) (se : SeqAt.shaped (.tuple ds) = true) : OpD X (compareOp .In) H d (.tuple ds) (.bool (ds.any fun z => PyData.eqv z d)) := fun G H1 _ E t x y hx hy Q q => by
  intro pins s σ v u I rx ry
  obtain ⟨as, r1⟩ := Dp.reads I d x v (E.dp hx) rx
  obtain ⟨bs, r2⟩ := Dp.reads I (.tuple ds) y u (E.dp hy) ry
  exact SeqAt.in_tuple_reads r2 r1 (SeqAt.canLay_of_shaped se) (SeqAt.canLay_of_shaped sd) (PyProof.Rows.room_in_shaped sd hu) ⟨.bl _, _, I, rfl, q _ G H1 (Fr.refl E t) (.bl _)⟩
theorem opd_notInT (hu : X.A.units + 65 < cLine) {d : PyData} {ds : List PyData} (sd : SeqAt.shaped d = true) (se : SeqAt.shaped (.tuple ds) = true) : OpD X (compareOp .NotIn) H d (.tuple ds) (.bool (!ds.any fun z => PyData.eqv z d)) := fun G H1 _ E t x y hx hy Q q => by
  intro pins s σ v u I rx ry
  obtain ⟨as, r1⟩ := Dp.reads I d x v (E.dp hx) rx
  obtain ⟨bs, r2⟩ := Dp.reads I (.tuple ds) y u (E.dp hy) ry
  exact SeqAt.notIn_tuple_reads r2 r1 (SeqAt.canLay_of_shaped se) (SeqAt.canLay_of_shaped sd) (PyProof.Rows.room_in_shaped sd hu) ⟨.bl _, _, I, rfl, q _ G H1 (Fr.refl E t) (.bl _)⟩
/-! ### statements with what they store known -/
theorem bb_val (i : Nat) (hN : X.N.Nodup) {n : Str} {pos' : Pos} (h : EvV X e σ Hb v) (B : Ext Hb H) (t : TabsOk X.K H) (q : ∀ H2, Ext Hb H2 → Ext H H2 → TabsOk X.K H2 → bB X sts D (σ.set i (some v)) H2) (hi : X.N[i]? = some n := by rfl)
    (hx : Loc X.env.scope n := by first | exact Or.inl rfl | exact Or.inr rfl) (hs : swapsWith e (some (.Name n pos')) pos.line X.env = pure false := by rfl) (hf : X.fn n = true ∨ X.env.scope.names.lookup n = some .local := by first | exact .inl rfl | exact .inr rfl) :
    bB X (.Assign [.Name n pos'] e pos :: sts) D σ H := bb_cons (bs_set (D := { D with nx := bB X sts D }) i hN h B t (fun u G H2 f e => by subst e; exact q H2 (f.g.trans f.g2) f.h f.tok) hi hx hs hf)
theorem bb_dat (i : Nat) (hN : X.N.Nodup) {n : Str} {pos' : Pos} (h : EvD X e σ Hb d) (B : Ext Hb H) (t : TabsOk X.K H) (q : ∀ v G H2, Fr X.K Hb H G H2 → Dp X.K G v d → bB X sts D (σ.set i (some v)) H2) (hi : X.N[i]? = some n := by rfl)
    (hx : Loc X.env.scope n := by first | exact Or.inl rfl | exact Or.inr rfl) (hs : swapsWith e (some (.Name n pos')) pos.line X.env = pure false := by rfl) (hf : X.fn n = true ∨ X.env.scope.names.lookup n = some .local := by first | exact .inl rfl | exact .inr rfl) :
    bB X (.Assign [.Name n pos'] e pos :: sts) D σ H := bb_cons (bs_set (D := { D with nx := bB X sts D }) i hN h B t (fun u G H2 f e => q u G H2 f e) hi hx hs hf)
theorem bb_ret (h : EvD X e σ Hb d) (B : Ext Hb H) (t : TabsOk X.K H) (q : ∀ v G H2, Fr X.K Hb H G H2 → Dp X.K G v d → D.rt v H2) : bB X (.Return (some e) pos :: sts) D σ H := bb_cons (bs_ret (D := { D with nx := bB X sts D }) h B t fun v G H2 f r => q v G H2 f r)
/-- if c: s1 (leaves, or goes on) -/
theorem bb_if (h : EvT X c σ Hb k) (B : Ext Hb H) (t : TabsOk X.K H) (q1 : k = true → ∀ H2, Ext Hb H2 → Ext H H2 → TabsOk X.K H2 → bB X s1 { D with nx := bB X sts D } σ H2) (q2 : k = false → ∀ H2, Ext Hb H2 → Ext H H2 → TabsOk X.K H2 → bB X s2 { D with nx := bB X sts D } σ H2) :
    bB X (.If c s1 s2 pos :: sts) D σ H := bb_cons (bs_if (D := { D with nx := bB X sts D }) h B t (fun e G H2 f => q1 e H2 (f.g.trans f.g2) f.h f.tok) (fun e G H2 f => q2 e H2 (f.g.trans f.g2) f.h f.tok))
theorem bb_if0 (h : EvT X c σ Hb k) (B : Ext Hb H) (t : TabsOk X.K H) (q1 : k = true → ∀ H2, Ext Hb H2 → Ext H H2 → TabsOk X.K H2 → bB X s1 { D with nx := bB X sts D } σ H2) (q2 : k = false → ∀ H2, Ext Hb H2 → Ext H H2 → TabsOk X.K H2 → bB X sts D σ H2) :
    bB X (.If c s1 [] pos :: sts) D σ H := bb_if h B t q1 fun e H2 a b c => bb_nil (q2 e H2 a b c)
/-- a tuple unpacked: its places -/
theorem bb_unp {es2 : List Expr} {kk} {pp : Pos} {g : TGs} {m : Nat} (h : EvD X e σ Hb (.tuple ds)) (B : Ext Hb H) (t : TabsOk X.K H) (hg : PGs X es2 g) (hm : ds.length = m)
    (q : ∀ xs G H2, Fr X.K Hb H G H2 → DpAll X.K G xs ds → g xs σ H2 (bB X sts D)) (hc : X.calm = true := by rfl)
    (hn : (assignEach es2 X.env).length = m := by rfl) (hst : (assignEach es2 X.env).findIdx? (·.1) = none := by rfl)
    (hs : swapsWithSole [.Tuple es2 kk pp] e pos.line X.env = pure false := by rfl) (hw : swappedStores [.Tuple es2 kk pp] e X.env = pure none := by rfl) (h1 : (assignEach [.Tuple es2 kk pp] X.env).map (·.2) = [assign (.Tuple es2 kk pp) X.env] := by rfl) :
    bB X (.Assign [.Tuple es2 kk pp] e pos :: sts) D σ H := bb_cons (PS.b (ps_asg pe_b (pg_tup hc hg hn hst) hs hw h1) (h H B t _ fun v G H2 f r => by
      cases r with
      | tup hs r => exact ⟨_, _, rfl, f.g2.t hs, by rw [all_len r]; exact hm, q _ G H2 f r⟩))
end

/-! ### all(lo <= sign <= hi for sign in text) -/
theorem elt_between {prog : Program} {w : World} {scope : Scope} {x : Str} {lo hi : String} {j1 j2 : Nat} {p1 p2 p3 p4 : Pos} (hk : scope.kind = .function) (hl : scope.names.lookup x = some .local) (hd : (x == ("__debug__" : Str)) = false := by decide) :
    GxR.EltP prog w scope x (.Compare (.Constant (.str lo) j1 p1) [.LtE, .LtE] [.Name x p2, .Constant (.str hi) j2 p3] p4) (fun c => !decide ([c] < (Str.ofString lo).cps.toList) && !decide ((Str.ofString hi).cps.toList < [c])) := by
  intro cenv A' E' c t s m hs hn hm
  refine PyProof.Rows.Compare_chain ?_
  refine Calls.Constant_str ?_
  refine PyProof.Rows.chain_link ?_
  refine PySem.wpAny_Name (PySem.wpAny_loadName_local (by rw [hs]; exact hk) (show cenv.scope.names.lookup x = some .local by rw [hs]; exact hl) hn hm ?_) hd
  refine PySem.P.le_str ?_
  refine PySem.wpAny_truthy_bool ?_
  by_cases h : ([c] : List Nat) < (Str.ofString lo).cps.toList
  · have e : decide ([c] < (Str.ofString lo).cps.toList) = true := decide_eq_true h
    simp only [e, Bool.not_true, Bool.false_and]
    exact ⟨trivial, GxR.keeps_tok _ _⟩
  · have e : decide ([c] < (Str.ofString lo).cps.toList) = false := decide_eq_false h
    simp only [e, Bool.not_false, Bool.true_and]
    refine PyProof.Rows.chain_last ?_
    refine Calls.Constant_str ?_
    exact PySem.P.le_str ⟨rfl, GxR.keeps_tok _ _⟩
end C
namespace C
open PySem L2
/-! ### an all(..) over a text's signs -/
section
variable {X : Cx} {σ : L2.St} {H : Hp} {iter elt : Expr} {c P : Addr} {x : Str} {px p pos gpos : Pos} {scope : Scope} {pb : Nat → Bool} {k : Nat} {z : Str}
theorem ev_allS (hr : Room k X.A) (hm : X.mg "all" = none) (TB : GxR.TabB X.base X.mg c P) (hcode : X.env.code = .ref c) (S : GxR.GenS X.env scope x) (hel : GxR.EltP X.prog X.w scope x elt pb) (hP : ∃ ps, H P = some (.tbl ps)) (hk : PySem.W.tabIn X.K "is_key" = some (c, P)) (hi : EvD X iter σ H (.str z)) (hg : Gl X "all" := by rfl)
    (hs : ∀ v, genFold iter X.env v = pure v := by intro _; rfl) (he : starEach [.GeneratorExp elt [⟨.Name x px, iter, [], 0⟩] scope gpos] X.env = (false, eval (.GeneratorExp elt [⟨.Name x px, iter, [], 0⟩] scope gpos) X.env) :: starEach [] X.env := by rfl) :
    EvD X (.Call (.Name "all" p) [.GeneratorExp elt [⟨.Name x px, iter, [], 0⟩] scope gpos] [] pos) σ H (.bool (z.cps.toList.all pb)) := fun H1 E t Q q =>
  PE.b (GxR.pe_allS hr hg hm (by decide +kernel) TB hcode S pe_b hel hs he) (hi H1 E t _ fun v G H2 f r => by
    obtain ⟨ps, hP⟩ := hP
    obtain ⟨qs, hQ⟩ := (f.g.trans f.g2).tb P ps hP
    have tg : GxR.TabG H2 P := ⟨qs, hQ, f.tok c P qs hk hQ⟩
    cases r
    exact ⟨z, rfl, tg, fun H3 tb => q _ G H3 ⟨f.g, f.g2.trans (Ext.tabbed tg tb), f.h.trans (Ext.tabbed tg tb), f.off, f.tok.tabbed tb⟩ (.bl _)⟩)
end
/-! ### kinds -/
def isInt : PyData → Bool
  | .int _ => true
  | _ => false
def isIB : PyData → Bool
  | .int _ => true
  | .bool _ => true
  | _ => false
def isB : PyData → Bool
  | .bool _ => true
  | _ => false
def isS : PyData → Bool
  | .str _ => true
  | _ => false
def isL : PyData → Bool
  | .list _ => true
  | _ => false
def isT : PyData → Bool
  | .tuple _ => true
  | _ => false
theorem kit_int (d : PyData) : kitB (tyName d) "int" = some (isIB d) := match d with
  | .none => (by decide +kernel : kitB "NoneType" "int" = some false)
  | .bool _ => (by decide +kernel : kitB "bool" "int" = some true)
  | .int _ => (by decide +kernel : kitB "int" "int" = some true)
  | .str _ => (by decide +kernel : kitB "str" "int" = some false)
  | .list _ => (by decide +kernel : kitB "list" "int" = some false)
  | .tuple _ => (by decide +kernel : kitB "tuple" "int" = some false)
  | .dict _ => (by decide +kernel : kitB "dict" "int" = some false)
theorem kit_bool (d : PyData) : kitB (tyName d) "bool" = some (isB d) := match d with
  | .none => (by decide +kernel : kitB "NoneType" "bool" = some false)
  | .bool _ => (by decide +kernel : kitB "bool" "bool" = some true)
  | .int _ => (by decide +kernel : kitB "int" "bool" = some false)
  | .str _ => (by decide +kernel : kitB "str" "bool" = some false)
  | .list _ => (by decide +kernel : kitB "list" "bool" = some false)
  | .tuple _ => (by decide +kernel : kitB "tuple" "bool" = some false)
  | .dict _ => (by decide +kernel : kitB "dict" "bool" = some false)
theorem kit_str (d : PyData) : kitB (tyName d) "str" = some (isS d) := match d with
  | .none => (by decide +kernel : kitB "NoneType" "str" = some false)
  | .bool _ => (by decide +kernel : kitB "bool" "str" = some false)
  | .int _ => (by decide +kernel : kitB "int" "str" = some false)
  | .str _ => (by decide +kernel : kitB "str" "str" = some true)
  | .list _ => (by decide +kernel : kitB "list" "str" = some false)
  | .tuple _ => (by decide +kernel : kitB "tuple" "str" = some false)
  | .dict _ => (by decide +kernel : kitB "dict" "str" = some false)
theorem kit_list (d : PyData) : kitB (tyName d) "list" = some (isL d) := match d with
  | .none => (by decide +kernel : kitB "NoneType" "list" = some false)
  | .bool _ => (by decide +kernel : kitB "bool" "list" = some false)
  | .int _ => (by decide +kernel : kitB "int" "list" = some false)
  | .str _ => (by decide +kernel : kitB "str" "list" = some false)
  | .list _ => (by decide +kernel : kitB "list" "list" = some true)
  | .tuple _ => (by decide +kernel : kitB "tuple" "list" = some false)
  | .dict _ => (by decide +kernel : kitB "dict" "list" = some false)
theorem kit_tuple (d : PyData) : kitB (tyName d) "tuple" = some (isT d) := match d with
  | .none => (by decide +kernel : kitB "NoneType" "tuple" = some false)
  | .bool _ => (by decide +kernel : kitB "bool" "tuple" = some false)
  | .int _ => (by decide +kernel : kitB "int" "tuple" = some false)
  | .str _ => (by decide +kernel : kitB "str" "tuple" = some false)
  | .list _ => (by decide +kernel : kitB "list" "tuple" = some false)
  | .tuple _ => (by decide +kernel : kitB "tuple" "tuple" = some true)
  | .dict _ => (by decide +kernel : kitB "dict" "tuple" = some false)
theorem isInt_eq (d : PyData) : (isIB d && !isB d) = isInt d := by cases d <;> rfl
/-! ### data of small depth and plain texts -/
def okS (z : Str) : Bool := decide (z.length ≤ 1000) && z.cps.toList.all (fun c => decide (c < 128))
def good : Nat → PyData → Bool
  | _, .none => true
  | _, .bool _ => true
  | _, .int _ => true
  | _, .str z => okS z
  | n + 1, .list ds => ds.all (good n)
  | n + 1, .tuple ds => ds.all (good n)
  | _, _ => false
theorem okS_strOk {z : Str} (h : okS z = true) : PyData.strOk z = true := by
  unfold okS at h
  rw [Bool.and_eq_true] at h
  unfold PyData.strOk
  rw [Array.all_eq_true_iff_forall_mem]
  intro c hc
  have := of_decide_eq_true (List.all_eq_true.mp h.2 c (by simpa using hc))
  exact decide_eq_true (by omega)
mutual
theorem good_lay : ∀ (n : Nat) (d : PyData), good n d = true → d.canLay0 = true ∧ d.depth ≤ n
  | n, .none, _ => ⟨by simp [PyData.canLay0], by simp [PyData.depth]⟩
  | n, .bool _, _ => ⟨by simp [PyData.canLay0], by simp [PyData.depth]⟩
  | n, .int _, _ => ⟨by simp [PyData.canLay0], by simp [PyData.depth]⟩
  | n, .str z, h => ⟨by simp only [PyData.canLay0]; exact okS_strOk (by unfold good at h; exact h), by simp [PyData.depth]⟩
  | 0, .list ds, h => by simp [good] at h
  | 0, .tuple ds, h => by simp [good] at h
  | n + 1, .list ds, h => by
    have q := good_lays n ds (by unfold good at h; exact h)
    exact ⟨by simp only [PyData.canLay0]; exact q.1, by simp only [PyData.depth]; omega⟩
  | n + 1, .tuple ds, h => by
    have q := good_lays n ds (by unfold good at h; exact h)
    exact ⟨by simp only [PyData.canLay0]; exact q.1, by simp only [PyData.depth]; omega⟩
  | n, .dict _, h => by cases n <;> simp [good] at h
theorem good_lays : ∀ (n : Nat) (ds : List PyData), ds.all (good n) = true → PyData.canLayAll0 ds = true ∧ PyData.depthAll ds ≤ n
  | n, [], _ => ⟨by simp [PyData.canLayAll0], by simp [PyData.depthAll]⟩
  | n, d :: ds, h => by
    rw [List.all_cons, Bool.and_eq_true] at h
    have a := good_lay n d h.1
    have b := good_lays n ds h.2
    refine ⟨?_, ?_⟩
    · simp only [PyData.canLayAll0]; rw [a.1, b.1]; rfl
    · simp only [PyData.depthAll]; omega
end
theorem good_shaped {n : Nat} {d : PyData} (h : good n d = true) (hn : n ≤ 64) : SeqAt.shaped d = true := by
  have q := good_lay n d h
  unfold SeqAt.shaped
  rw [q.1, Bool.true_and]
  exact decide_eq_true (by omega)
theorem good_mono : ∀ (n : Nat) (d : PyData), good n d = true → good (n + 1) d = true
  | n, .none, _ => by simp [good]
  | n, .bool _, _ => by simp [good]
  | n, .int _, _ => by simp [good]
  | n, .str z, h => by unfold good at h ⊢; exact h
  | 0, .list ds, h => by simp [good] at h
  | 0, .tuple ds, h => by simp [good] at h
  | n + 1, .list ds, h => by
    unfold good at h ⊢
    exact List.all_eq_true.mpr fun x hx => good_mono n x (List.all_eq_true.mp h x hx)
  | n + 1, .tuple ds, h => by
    unfold good at h ⊢
    exact List.all_eq_true.mpr fun x hx => good_mono n x (List.all_eq_true.mp h x hx)
  | n, .dict _, h => by cases n <;> simp [good] at h
theorem good_le {n m : Nat} {d : PyData} (h : good n d = true) (hm : n ≤ m) : good m d = true := by
  obtain ⟨k, rfl⟩ := Nat.le.dest hm
  clear hm
  induction k with
  | zero => exact h
  | succ k ih => exact good_mono _ _ ih
theorem atI_in {α : Type} {xs : List α} {i : Int} (h0 : 0 ≤ i) (h : i < xs.length) : ∃ c, atI xs i = some c ∧ c ∈ xs := by
  obtain ⟨n, rfl⟩ := Int.eq_ofNat_of_zero_le h0
  have hk : n < xs.length := by omega
  exact ⟨xs[n], atI_nat (List.getElem?_eq_getElem hk), List.getElem_mem hk⟩
end C
namespace C
open PySem L2
section
variable {X : Cx} {σ : L2.St} {H : Hp} {a b c : Expr} {es : List Expr} {i j : Int} {d : PyData} {ds : List PyData} {x y : Str} {v : V} {pos p : Pos} {k l : Bool}
theorem ev_name (n : Nat) {x : Str} {v : V} (r : Dp X.K H v d) (hi : σ[n]? = some (some v)) (hN : X.N[n]? = some x := by rfl) (hv : Vis X.env.scope x := by first | exact Or.inl rfl | exact Or.inr (Or.inl rfl) | exact Or.inr (Or.inr rfl)) (hd : (x == ("__debug__" : Str)) = false := by decide)
    (hcd : (x == ("__classdict__" : Str)) = false := by decide) : EvD X (.Name x pos) σ H d := (ev_var n hi hN hv hd hcd).dat r
theorem ev_add (ha : EvD X a σ H (.int i)) (hb : EvD X b σ H (.int j)) : EvD X (.BinOp a .Add b pos) σ H (.int (i + j)) := ev_bin ha hb opd_add
theorem ev_sub (ha : EvD X a σ H (.int i)) (hb : EvD X b σ H (.int j)) : EvD X (.BinOp a .Sub b pos) σ H (.int (i - j)) := ev_bin ha hb opd_sub
theorem ev_mod (ha : EvD X a σ H (.int i)) (hb : EvD X b σ H (.int j)) (h : 0 < j) : EvD X (.BinOp a .Mod b pos) σ H (.int (i % j)) := ev_bin ha hb (opd_mod h)
theorem ev_div (ha : EvD X a σ H (.int i)) (hb : EvD X b σ H (.int j)) (h : 0 < j ∧ j < 1073741824) : EvD X (.BinOp a .FloorDiv b pos) σ H (.int (i / j)) := ev_bin ha hb (opd_div h.1 h.2)
theorem ev_mulR (ha : EvD X a σ H (.int i)) (hb : EvD X b σ H (.int j)) (h : j.natAbs < 2 ^ 64) : EvD X (.BinOp a .Mult b pos) σ H (.int (i * j)) := ev_bin ha hb (opd_mulR h)
theorem ev_mulL (ha : EvD X a σ H (.int i)) (hb : EvD X b σ H (.int j)) (h : i.natAbs < 2 ^ 64) : EvD X (.BinOp a .Mult b pos) σ H (.int (i * j)) := ev_bin ha hb (opd_mulL h)
theorem ev_pow {n : Nat} (ha : EvD X a σ H (.int i)) (hb : EvD X b σ H (.int n)) (h : i.natAbs < 2 ^ 64) (hn : n ≤ 1000000) : EvD X (.BinOp a .Pow b pos) σ H (.int (i ^ n)) := ev_bin ha hb (opd_pow h hn)
theorem ev_catS (ha : EvD X a σ H (.str x)) (hb : EvD X b σ H (.str y)) (h : x.length + y.length ≤ 100000) : EvD X (.BinOp a .Add b pos) σ H (.str (x ++ y)) := ev_bin ha hb (opd_catS (line_of h))
theorem et_lt (ha : EvD X a σ H (.int i)) (hb : EvD X b σ H (.int j)) (hm : behindInMarks .Lt b = false := by rfl) : EvT X (.Compare a [.Lt] [b] pos) σ H (decide (i < j)) := et_cmp ha hb opd_lt hm
theorem et_le (ha : EvD X a σ H (.int i)) (hb : EvD X b σ H (.int j)) (hm : behindInMarks .LtE b = false := by rfl) : EvT X (.Compare a [.LtE] [b] pos) σ H (decide (i ≤ j)) := et_cmp ha hb opd_le hm
theorem et_gt (ha : EvD X a σ H (.int i)) (hb : EvD X b σ H (.int j)) (hm : behindInMarks .Gt b = false := by rfl) : EvT X (.Compare a [.Gt] [b] pos) σ H (decide (j < i)) := et_cmp ha hb opd_gt hm
theorem et_ge (ha : EvD X a σ H (.int i)) (hb : EvD X b σ H (.int j)) (hm : behindInMarks .GtE b = false := by rfl) : EvT X (.Compare a [.GtE] [b] pos) σ H (decide (j ≤ i)) := et_cmp ha hb opd_ge hm
theorem et_eqI (ha : EvD X a σ H (.int i)) (hb : EvD X b σ H (.int j)) (hm : behindInMarks .Eq b = false := by rfl) : EvT X (.Compare a [.Eq] [b] pos) σ H (decide (i = j)) := et_cmp ha hb opd_eqI hm
theorem et_neI (ha : EvD X a σ H (.int i)) (hb : EvD X b σ H (.int j)) (hm : behindInMarks .NotEq b = false := by rfl) : EvT X (.Compare a [.NotEq] [b] pos) σ H (!decide (i = j)) := et_cmp ha hb opd_neI hm
theorem et_eqS (ha : EvD X a σ H (.str x)) (hb : EvD X b σ H (.str y)) (hm : behindInMarks .Eq b = false := by rfl) : EvT X (.Compare a [.Eq] [b] pos) σ H (decide (x = y)) := et_cmp ha hb opd_eqS hm
theorem et_neS (ha : EvD X a σ H (.str x)) (hb : EvD X b σ H (.str y)) (hm : behindInMarks .NotEq b = false := by rfl) : EvT X (.Compare a [.NotEq] [b] pos) σ H (!decide (x = y)) := et_cmp ha hb opd_neS hm
theorem et_eqB (ha : EvD X a σ H (.bool k)) (hb : EvD X b σ H (.bool l)) (hm : behindInMarks .Eq b = false := by rfl) : EvT X (.Compare a [.Eq] [b] pos) σ H (k == l) := et_cmp ha hb opd_eqB hm
theorem et_isN (ha : EvD X a σ H d) (hb : EvD X b σ H .none) (hm : behindInMarks .Is b = false := by rfl) : EvT X (.Compare a [.Is] [b] pos) σ H (isNone d) := et_cmp ha hb opd_isN hm
theorem et_notN (ha : EvD X a σ H d) (hb : EvD X b σ H .none) (hm : behindInMarks .IsNot b = false := by rfl) : EvT X (.Compare a [.IsNot] [b] pos) σ H (!isNone d) := et_cmp ha hb opd_notN hm
theorem ev_eqI (ha : EvD X a σ H (.int i)) (hb : EvD X b σ H (.int j)) (hm : behindInMarks .Eq b = false := by rfl) : EvD X (.Compare a [.Eq] [b] pos) σ H (.bool (decide (i = j))) := ev_cmp ha hb opd_eqI hm
theorem ev_neI (ha : EvD X a σ H (.int i)) (hb : EvD X b σ H (.int j)) (hm : behindInMarks .NotEq b = false := by rfl) : EvD X (.Compare a [.NotEq] [b] pos) σ H (.bool (!decide (i = j))) := ev_cmp ha hb opd_neI hm
theorem ev_eqS (ha : EvD X a σ H (.str x)) (hb : EvD X b σ H (.str y)) (hm : behindInMarks .Eq b = false := by rfl) : EvD X (.Compare a [.Eq] [b] pos) σ H (.bool (decide (x = y))) := ev_cmp ha hb opd_eqS hm
theorem ev_neS (ha : EvD X a σ H (.str x)) (hb : EvD X b σ H (.str y)) (hm : behindInMarks .NotEq b = false := by rfl) : EvD X (.Compare a [.NotEq] [b] pos) σ H (.bool (!decide (x = y))) := ev_cmp ha hb opd_neS hm
theorem ev_eqB (ha : EvD X a σ H (.bool k)) (hb : EvD X b σ H (.bool l)) (hm : behindInMarks .Eq b = false := by rfl) : EvD X (.Compare a [.Eq] [b] pos) σ H (.bool (k == l)) := ev_cmp ha hb opd_eqB hm
theorem ev_isN (ha : EvD X a σ H d) (hb : EvD X b σ H .none) (hm : behindInMarks .Is b = false := by rfl) : EvD X (.Compare a [.Is] [b] pos) σ H (.bool (isNone d)) := ev_cmp ha hb opd_isN hm
theorem ev_lt (ha : EvD X a σ H (.int i)) (hb : EvD X b σ H (.int j)) (hm : behindInMarks .Lt b = false := by rfl) : EvD X (.Compare a [.Lt] [b] pos) σ H (.bool (decide (i < j))) := ev_cmp ha hb opd_lt hm
theorem ev_lenL (ha : EvD X a σ H (.list ds)) (hm : X.mg "len" = none) (hg : Gl X "len" := by rfl) (he : starEach [a] X.env = (false, eval a X.env) :: starEach [] X.env := by rfl) : EvD X (.Call (.Name "len" p) [a] [] pos) σ H (.int (ds.length : Int)) := ev_callB (ea_cons ha ea_nil he) cd_lenL hg hm (by decide +kernel) (by decide) (by decide) he
theorem ev_lenT (ha : EvD X a σ H (.tuple ds)) (hm : X.mg "len" = none) (hg : Gl X "len" := by rfl) (he : starEach [a] X.env = (false, eval a X.env) :: starEach [] X.env := by rfl) : EvD X (.Call (.Name "len" p) [a] [] pos) σ H (.int (ds.length : Int)) := ev_callB (ea_cons ha ea_nil he) cd_lenT hg hm (by decide +kernel) (by decide) (by decide) he
theorem ev_lenS (ha : EvD X a σ H (.str x)) (hm : X.mg "len" = none) (hx : x.length ≤ sizeLine) (hg : Gl X "len" := by rfl) (he : starEach [a] X.env = (false, eval a X.env) :: starEach [] X.env := by rfl) : EvD X (.Call (.Name "len" p) [a] [] pos) σ H (.int (x.length : Int)) := ev_callB (ea_cons ha ea_nil he) (cd_lenS hx) hg hm (by decide +kernel) (by decide) (by decide) he
theorem ev_ixL {n : Int} (ha : EvD X a σ H (.list ds)) (hb : EvD X b σ H (.int n)) (h : atI ds n = some d) (hs : PlainIx b := by exact fun _ _ => rfl) : EvD X (.Subscript a b pos) σ H d := ev_ix ha hb (ix_l h) hs
theorem ev_ixT {n : Int} (ha : EvD X a σ H (.tuple ds)) (hb : EvD X b σ H (.int n)) (h : atI ds n = some d) (hs : PlainIx b := by exact fun _ _ => rfl) : EvD X (.Subscript a b pos) σ H d := ev_ix ha hb (ix_t h) hs
theorem ev_ixS {n : Int} {m : Nat} (ha : EvD X a σ H (.str x)) (hb : EvD X b σ H (.int n)) (hl : x.length ≤ 100000) (h : atI x.cps.toList n = some m) (hs : PlainIx b := by exact fun _ _ => rfl) : EvD X (.Subscript a b pos) σ H (.str ⟨#[m]⟩) := ev_ix ha hb (ix_s (line_of hl) h) hs
end
end C
namespace C
open PySem L2
section
variable {X : Cx} {σ : L2.St} {H : Hp} {a b c e : Expr} {es : List Expr} {i j : Int} {d : PyData} {ds : List PyData} {x y : Str} {v : V} {pos p : Pos} {k l : Bool}
/-- a name of the module that holds a written tuple, an int -/
theorem ev_globT {ad : Addr} {xs : List V} (hm : X.mg x = some (.ref ad)) (ht : ∀ H, SqT X.K H ad xs) (r : ∀ H, DpAll X.K H xs ds) (hg : Gl X x := by rfl) (hd : (x == ("__debug__" : Str)) = false := by decide) : EvD X (.Name x pos) σ H (.tuple ds) := fun H1 E t Q q =>
  PE.b (pe_glob hg hm (v := .ref ad) rfl hd) (q _ H H1 (Fr.refl E t) (.tup (ht H) (r H)))
theorem ev_globI {n : Int} {tk : Tok} (hm : X.mg x = some (.int n tk)) (hg : Gl X x := by rfl) (hd : (x == ("__debug__" : Str)) = false := by decide) : EvD X (.Name x pos) σ H (.int n) := fun H1 E t Q q =>
  PE.b (pe_glob hg hm (v := .int n) ⟨_, rfl⟩ hd) (q _ H H1 (Fr.refl E t) (.int n))
/-- the test of a comparison's value -/
theorem et_inT (hu : X.A.units + 65 < cLine) (ha : EvD X a σ H d) (hb : EvD X b σ H (.tuple ds)) (sd : SeqAt.shaped d = true) (se : SeqAt.shaped (.tuple ds) = true) (hm : behindInMarks .In b = false := by rfl) : EvT X (.Compare a [.In] [b] pos) σ H (ds.any fun z => PyData.eqv z d) := et_cmp ha hb (opd_inT hu sd se) hm
theorem et_notInT (hu : X.A.units + 65 < cLine) (ha : EvD X a σ H d) (hb : EvD X b σ H (.tuple ds)) (sd : SeqAt.shaped d = true) (se : SeqAt.shaped (.tuple ds) = true) (hm : behindInMarks .NotIn b = false := by rfl) : EvT X (.Compare a [.NotIn] [b] pos) σ H (!ds.any fun z => PyData.eqv z d) := et_cmp ha hb (opd_notInT hu sd se) hm
/-- a demonic promise: some data that R allows -/
def SpE (K : PySem.W.Frag) (T : Hp → Prop) (R : List PyData → PyData → Prop) : Sp := fun vs H Q _ => ∃ G ds, Ext G H ∧ TabsOk K H ∧ DpAll K G vs ds ∧ T G ∧ (∃ d, R ds d) ∧ ∀ d v G' H2, R ds d → Fr K G H G' H2 → Dp K G' v d → Q v H2
theorem ev_callE {CX : CXT} {k : Nat} {f : Addr} {fd : FuncData} {ps : List Str} {T : Hp → Prop} {R : List PyData → PyData → Prop} {E : XK} {nm : Str} (F : FnOk X.prog X.w X.K X.mg X.base CX k f fd ps (SpE X.K T R)) (hr : Room k X.A) (hg : Gl X nm) (hm : X.mg nm = some (.ref f)) (hk : PySem.W.keepIn X.K (.ref f) = true) (hb : Binds X.K fd ps [])
    (hx : Passes CX X E) (ha : EvAD X (e :: es) σ H ds) (hR : ∃ d, R ds d) (hT : ∀ H1, Ext H H1 → T H1) (hdb : (nm == ("__debug__" : Str)) = false := by decide) (he : starEach (e :: es) X.env = (false, eval e X.env) :: starEach es X.env := by rfl) (hpl : (backTo pos (starEach es X.env)).any (·.1) = false := by rfl) :
    Ev X (.Call (.Name nm p) (e :: es) [] pos) σ H (fun v G => ∃ d, R ds d ∧ Dp X.K G v d) := fun H1 E1 t Q q =>
  PE.b (pe_call F hr hg hm hk hb .nil hx pa_b hdb he hpl) (ha H1 E1 t _ fun vs G H2 f r => by
    refine ⟨G, ds, f.g2, f.tok, ?_, hT _ f.g, hR, fun d v G2 H3 hd f2 s => q v G2 H3 (f.trans f2) ⟨d, hd, s⟩⟩
    rw [List.append_nil]
    exact r)
end
section
variable {X : Cx} {σ : L2.St} {H Hb : Hp} {e : Expr} {sts : List Stmt} {v : V} {pos : Pos} {D : Ends}
theorem bb_ev (i : Nat) (hN : X.N.Nodup) {n : Str} {pos' : Pos} {P : VP} (h : Ev X e σ Hb P) (B : Ext Hb H) (t : TabsOk X.K H) (q : ∀ v G H2, Fr X.K Hb H G H2 → P v G → bB X sts D (σ.set i (some v)) H2) (hi : X.N[i]? = some n := by rfl)
    (hx : Loc X.env.scope n := by first | exact Or.inl rfl | exact Or.inr rfl) (hs : swapsWith e (some (.Name n pos')) pos.line X.env = pure false := by rfl) (hf : X.fn n = true ∨ X.env.scope.names.lookup n = some .local := by first | exact .inl rfl | exact .inr rfl) :
    bB X (.Assign [.Name n pos'] e pos :: sts) D σ H := bb_cons (bs_set (D := { D with nx := bB X sts D }) i hN h B t (fun u G H2 f e => q u G H2 f e) hi hx hs hf)
theorem bb_retP {P : VP} (h : Ev X e σ Hb P) (B : Ext Hb H) (t : TabsOk X.K H) (q : ∀ v G H2, Fr X.K Hb H G H2 → P v G → D.rt v H2) : bB X (.Return (some e) pos :: sts) D σ H := bb_cons (bs_ret (D := { D with nx := bB X sts D }) h B t fun v G H2 f r => q v G H2 f r)
end
/-! a for over the loop's own list of ints that are written -/
section
variable {X : Cx} {σ : L2.St} {H H' Hb : Hp} {iter : Expr} {body : List Stmt} {pos p0 p1 p2 : Pos} {D : Ends} {sts : List Stmt} {m : Expr} {n : Str} {N : Int} {i : Nat}
theorem bb_forR (i : Nat) (hN : X.N.Nodup) (Pv : Nat → L2.St → Hp → Prop) (h : EvD X m σ Hb (.int N)) (B : Ext Hb H) (t : TabsOk X.K H) (hsz : -1000000 ≤ N ∧ N ≤ 1000000)
    (h0 : ∀ H2, Ext Hb H2 → Ext H H2 → TabsOk X.K H2 → Pv 0 σ H2)
    (hs : ∀ (j : Nat) σ' H', (j : Int) < N → Pv j σ' H' → bB X body { nx := Pv (j + 1), rt := D.rt, ct := Pv (j + 1), bk := bB X sts D } (σ'.set i (some (.int (j : Int)))) H') (hd : ∀ σ' H', Pv N.toNat σ' H' → bB X sts D σ' H')
    (hp : PassesOwn (model X.prog X.w) X.A X.env X.xe) (hm : X.mg "range" = none) (hg : Gl X "range" := by rfl) (hc : X.calm = true := by rfl) (hi : X.N[i]? = some n := by rfl)
    (hn : Loc X.env.scope n := by first | exact Or.inl rfl | exact Or.inr rfl) (hf : X.fn n = true ∨ X.env.scope.names.lookup n = some .local := by first | exact .inl rfl | exact .inr rfl) (hst : starEach [m] X.env = [(false, eval m X.env)] := by rfl) : bB X (.For (.Name n p0) (.Call (.Name "range" p1) [m] [] p2) body [] pos :: sts) D σ H :=
  bb_cons (bs_forR (D := { D with nx := bB X sts D }) Pv h B t (by omega) (by omega) (fun G H2 f => h0 H2 (f.g.trans f.g2) f.h f.tok) hs hd hp hm hN hg hc hi hn hf hst)
theorem bb_forL (i : Nat) (hN : X.N.Nodup) {ad : Addr} {xs : List V} (Pv : Nat → L2.St → Hp → Prop) (h : EvV X iter σ Hb (.ref ad)) (B : Ext Hb H) (t : TabsOk X.K H) (hx : SqL X.K Hb ad xs)
    (h0 : ∀ H2, Ext Hb H2 → Ext H H2 → TabsOk X.K H2 → Pv 0 σ H2) (hl : ∀ j σ' H', j ≤ xs.length → Pv j σ' H' → SqL X.K H' ad xs)
    (hs : ∀ j x σ' H', xs[j]? = some x → Pv j σ' H' → bB X body { nx := Pv (j + 1), rt := D.rt, ct := Pv (j + 1), bk := bB X sts D } (σ'.set i (some x)) H') (hd : ∀ σ' H', Pv xs.length σ' H' → bB X sts D σ' H')
    (hp : PassesOwn (model X.prog X.w) X.A X.env X.xe) (hc : X.calm = true := by rfl) (hi : X.N[i]? = some n := by rfl)
    (hn : Loc X.env.scope n := by first | exact Or.inl rfl | exact Or.inr rfl) (hf : X.fn n = true ∨ X.env.scope.names.lookup n = some .local := by first | exact .inl rfl | exact .inr rfl) (hfs : ∀ x, foldedSetIterable iter X.env x = pure x := by intro _; rfl) : bB X (.For (.Name n p0) iter body [] pos :: sts) D σ H :=
  bb_cons (bs_forL (D := { D with nx := bB X sts D }) Pv h B t (fun G E => E.l hx) (fun G H2 f => h0 H2 (f.g.trans f.g2) f.h f.tok) hl hs hd hp hN hc hi hn hf hfs)
/-- .. over a tuple -/
theorem bb_forT (i : Nat) (hN : X.N.Nodup) {ds : List PyData} (h : EvD X iter σ Hb (.tuple ds)) (B : Ext Hb H) (t : TabsOk X.K H)
    (q : ∀ ad xs G H2, Fr X.K Hb H G H2 → SqT X.K G ad xs → DpAll X.K G xs ds → ∃ Pv : Nat → L2.St → Hp → Prop, Pv 0 σ H2 ∧ (∀ j σ' H', j ≤ xs.length → Pv j σ' H' → SqT X.K H' ad xs) ∧
      (∀ j x σ' H', xs[j]? = some x → Pv j σ' H' → bB X body { nx := Pv (j + 1), rt := D.rt, ct := Pv (j + 1), bk := bB X sts D } (σ'.set i (some x)) H') ∧ (∀ σ' H', Pv xs.length σ' H' → bB X sts D σ' H'))
    (hp : PassesOwn (model X.prog X.w) X.A X.env X.xe) (hc : X.calm = true := by rfl) (hi : X.N[i]? = some n := by rfl)
    (hn : Loc X.env.scope n := by first | exact Or.inl rfl | exact Or.inr rfl) (hf : X.fn n = true ∨ X.env.scope.names.lookup n = some .local := by first | exact .inl rfl | exact .inr rfl) (hfs : ∀ x, foldedSetIterable iter X.env x = pure x := by intro _; rfl) : bB X (.For (.Name n p0) iter body [] pos :: sts) D σ H :=
  bb_cons (PS.b (ps_for hp hc (pi_tup pe_b) (pg_name hN hi hn hf) pss_b hfs) (h H B t _ fun v G H2 f r => by
    cases r with
    | tup hs r =>
      obtain ⟨Pv, a, b, c, d⟩ := q _ _ G H2 f hs r
      exact ⟨_, rfl, ⟨_, f.g2.t hs⟩, L2.for_tup Pv a b c d⟩))
/-- over a new list -/
theorem bb_forK (i : Nat) (hN : X.N.Nodup) {P : VP} (h : Ev X iter σ Hb P) (B : Ext Hb H) (t : TabsOk X.K H)
    (q : ∀ v G H2, Fr X.K Hb H G H2 → P v G → ∃ ad xs, v = .ref ad ∧ SqL X.K H2 ad xs ∧ ∃ Pv : Nat → L2.St → Hp → Prop, Pv 0 σ H2 ∧ (∀ j σ' H', j ≤ xs.length → Pv j σ' H' → SqL X.K H' ad xs) ∧
      (∀ j x σ' H', xs[j]? = some x → Pv j σ' H' → bB X body { nx := Pv (j + 1), rt := D.rt, ct := Pv (j + 1), bk := bB X sts D } (σ'.set i (some x)) H') ∧ (∀ σ' H', Pv xs.length σ' H' → bB X sts D σ' H'))
    (hp : PassesOwn (model X.prog X.w) X.A X.env X.xe) (hc : X.calm = true := by rfl) (hi : X.N[i]? = some n := by rfl)
    (hn : Loc X.env.scope n := by first | exact Or.inl rfl | exact Or.inr rfl) (hf : X.fn n = true ∨ X.env.scope.names.lookup n = some .local := by first | exact .inl rfl | exact .inr rfl) (hfs : ∀ x, foldedSetIterable iter X.env x = pure x := by intro _; rfl) : bB X (.For (.Name n p0) iter body [] pos :: sts) D σ H :=
  bb_cons (PS.b (ps_for hp hc (pi_list pe_b) (pg_name hN hi hn hf) pss_b hfs) (h H B t _ fun v G H2 f r => by
    obtain ⟨ad, xs, e, hs, Pv, a, b, c, d⟩ := q v G H2 f r
    exact ⟨ad, e, ⟨xs, hs⟩, L2.for_list Pv a b c d⟩))
/-- over a text -/
theorem bb_forS (i : Nat) (hN : X.N.Nodup) {z : Str} (Pv : Nat → L2.St → Hp → Prop) (h : EvD X iter σ Hb (.str z)) (B : Ext Hb H) (t : TabsOk X.K H)
    (h0 : ∀ H2, Ext Hb H2 → Ext H H2 → TabsOk X.K H2 → Pv 0 σ H2)
    (hs : ∀ j c σ' H', z.cps.toList[j]? = some c → Pv j σ' H' → bB X body { nx := Pv (j + 1), rt := D.rt, ct := Pv (j + 1), bk := bB X sts D } (σ'.set i (some (.str ⟨#[c]⟩))) H') (hd : ∀ σ' H', Pv z.cps.toList.length σ' H' → bB X sts D σ' H')
    (hp : PassesOwn (model X.prog X.w) X.A X.env X.xe) (hc : X.calm = true := by rfl) (hi : X.N[i]? = some n := by rfl)
    (hn : Loc X.env.scope n := by first | exact Or.inl rfl | exact Or.inr rfl) (hf : X.fn n = true ∨ X.env.scope.names.lookup n = some .local := by first | exact .inl rfl | exact .inr rfl) (hfs : ∀ x, foldedSetIterable iter X.env x = pure x := by intro _; rfl) : bB X (.For (.Name n p0) iter body [] pos :: sts) D σ H :=
  bb_cons (PS.b (ps_for hp hc (pi_str pe_b) (pg_name hN hi hn hf) pss_b hfs) (h H B t _ fun v G H2 f r => by
    cases r
    refine ⟨z, rfl, fun i m σ H => m = z.cps.toList.length - i ∧ i ≤ z.cps.toList.length ∧ Pv i σ H, ⟨_, rfl, Nat.zero_le _, h0 H2 (f.g.trans f.g2) f.h f.tok⟩, ?_⟩
    rintro i m σ H ⟨rfl, hi, p⟩
    have es : z.cps.size = z.cps.toList.length := by simp
    by_cases hlt : i < z.cps.toList.length
    · refine .inr ⟨by show i < z.cps.size; omega, Pv (i + 1), fun σ' H' p' => ⟨_, by omega, rfl, hlt, p'⟩, fun x H' y => ?_⟩
      obtain ⟨e, c, hc, rfl⟩ := y
      subst e
      exact hs i c σ _ (by simpa using hc) p
    · have e : i = z.cps.toList.length := by omega
      subst e
      exact .inl ⟨by show z.cps.size ≤ _; omega, hd σ H p⟩))
end
end C

namespace C
open PySem L2
section
variable {X : Cx} {σ : L2.St} {H H' Hb : Hp} {a b c e lo hi : Expr} {es : List Expr} {sts s1 s2 : List Stmt} {i j : Int} {d : PyData} {ds ds1 ds2 : List PyData} {x y : Str} {v : V} {pos p p2 p3 : Pos} {k l : Bool} {D : Ends}
/-! ### weakening what is wanted behind -/
theorem SP.imp {pins : List (Addr × Obj)} {D' : Ends} {f : Flow} {s : Shared} (hn : ∀ σ H, D.nx σ H → D'.nx σ H) (hr : ∀ v H, D.rt v H → D'.rt v H) (hb : ∀ σ H, D.bk σ H → D'.bk σ H) (hc : ∀ σ H, D.ct σ H → D'.ct σ H) (h : SP X pins D f s) : SP X pins D' f s := by
  cases f with
  | next => obtain ⟨a, b, c, d⟩ := h; exact ⟨a, b, c, hn _ _ d⟩
  | brk => obtain ⟨a, b, c, d⟩ := h; exact ⟨a, b, c, hb _ _ d⟩
  | cont => obtain ⟨a, b, c, d⟩ := h; exact ⟨a, b, c, hc _ _ d⟩
  | ret u => obtain ⟨v, a, b, c, r, d⟩ := h; exact ⟨v, a, b, c, r, hr _ _ d⟩
theorem bB_nx {M M' : L2.St → Hp → Prop} (h : bB X sts { D with nx := M } σ H) (q : ∀ σ H, M σ H → M' σ H) : bB X sts { D with nx := M' } σ H := fun pins s I => thn (h pins s I) fun f s' r => SP.imp (D := { D with nx := M }) q (fun _ _ z => z) (fun _ _ z => z) (fun _ _ z => z) r
theorem bB_rt {D' : Ends} (h : bB X sts D σ H) (hn : ∀ σ H, D.nx σ H → D'.nx σ H) (hr : ∀ v H, D.rt v H → D'.rt v H) (hb : ∀ σ H, D.bk σ H → D'.bk σ H) (hc : ∀ σ H, D.ct σ H → D'.ct σ H) : bB X sts D' σ H := fun pins s I => thn (h pins s I) fun f s' r => SP.imp hn hr hb hc r
/-- both ways of an if meet at M -/
theorem bb_ifM (M : L2.St → Hp → Prop) (h : EvT X c σ Hb k) (B : Ext Hb H) (t : TabsOk X.K H) (q1 : k = true → ∀ H2, Ext Hb H2 → Ext H H2 → TabsOk X.K H2 → bB X s1 { D with nx := M } σ H2) (q2 : k = false → ∀ H2, Ext Hb H2 → Ext H H2 → TabsOk X.K H2 → bB X s2 { D with nx := M } σ H2)
    (q : ∀ σ' H', M σ' H' → bB X sts D σ' H') : bB X (.If c s1 s2 pos :: sts) D σ H := bb_if h B t (fun e H2 a b c => bB_nx (q1 e H2 a b c) q) (fun e H2 a b c => bB_nx (q2 e H2 a b c) q)
theorem ev_neg (ha : EvD X a σ H (.int i)) : EvD X (.UnaryOp .USub a pos) σ H (.int (-i)) := fun H1 E t Q q =>
  PE.b (pe_un un_neg pe_b) (ha H1 E t _ fun v G H2 f r => by
    cases r
    exact ⟨i, rfl, q _ G H2 f (.int _)⟩)
/-! ### lists that are tracked -/
def EvK (X : Cx) (e : Expr) (σ : L2.St) (H : Hp) (ds : List PyData) : Prop := Ev X e σ H fun v G => ∃ a xs, v = .ref a ∧ G a = some (.lst xs) ∧ DpAll X.K G xs ds
theorem EvK.dat (h : EvK X e σ H ds) : EvD X e σ H (.list ds) := Ev.imp h fun v G _ ⟨a, xs, e, h1, h2⟩ => by subst e; exact .lst (.inl (.inl h1)) h2
theorem EvK.mono (E : Ext H H') (h : EvK X e σ H ds) : EvK X e σ H' ds := Ev.mono E (fun _ _ _ a ⟨b, xs, e, h1, h2⟩ => ⟨b, xs, e, a.keep _ _ h1 rfl, a.dps h2⟩) h
theorem ek_lst (h : EvAD X es σ H ds) (hl : ds.length ≤ 100000) : EvK X (.List es pos) σ H ds := fun H1 E t Q q =>
  PE.b (pe_lst pa_b) (h H1 E t _ fun vs G H2 f r => ⟨line_of (by rw [all_len r]; exact hl), fun p hp => q _ _ _ (f.new hp rfl) ⟨p, vs, rfl, upd_same, (Ext.new (f.g2.fresh hp)).dps r⟩⟩)
theorem ek_var (n : Nat) {x : Str} {ad : Addr} {xs : List V} (hk : H ad = some (.lst xs)) (r : DpAll X.K H xs ds) (hi : σ[n]? = some (some (.ref ad))) (hN : X.N[n]? = some x := by rfl) (hv : Vis X.env.scope x := by first | exact Or.inl rfl | exact Or.inr (Or.inl rfl) | exact Or.inr (Or.inr rfl)) (hd : (x == ("__debug__" : Str)) = false := by decide)
    (hcd : (x == ("__classdict__" : Str)) = false := by decide) : EvK X (.Name x pos) σ H ds := Ev.imp (ev_var n hi hN hv hd hcd) fun u G E e => ⟨ad, xs, e, E.keep _ _ hk rfl, E.dps r⟩
theorem all_app {K : PySem.W.Frag} {H : Hp} : ∀ {us vs : List V} {ds es : List PyData}, DpAll K H us ds → DpAll K H vs es → DpAll K H (us ++ vs) (ds ++ es)
  | _, _, _, _, .nil, h => h
  | _, _, _, _, .cons a b, h => .cons a (all_app b h)
theorem all_take {K : PySem.W.Frag} {H : Hp} : ∀ (n : Nat) {us : List V} {ds : List PyData}, DpAll K H us ds → DpAll K H (us.take n) (ds.take n)
  | 0, _, _, _ => .nil
  | _ + 1, _, _, .nil => .nil
  | n + 1, _, _, .cons a b => .cons a (all_take n b)
theorem all_drop {K : PySem.W.Frag} {H : Hp} : ∀ (n : Nat) {us : List V} {ds : List PyData}, DpAll K H us ds → DpAll K H (us.drop n) (ds.drop n)
  | 0, _, _, h => h
  | _ + 1, _, _, .nil => .nil
  | n + 1, _, _, .cons _ b => all_drop n b
theorem ek_cat (ha : EvK X a σ H ds1) (hb : EvK X b σ H ds2) (hl : ds1.length + ds2.length ≤ 100000) : EvK X (.BinOp a .Add b pos) σ H (ds1 ++ ds2) := fun H1 E t Q q =>
  PE.b (pe_op or_b pe_b pe_b) (ha H1 E t _ fun x G H2 f ⟨p1, xs, e1, h1, r1⟩ => hb.mono f.g H2 f.g2 f.tok _ fun y G2 H3 f2 ⟨p2, ys, e2, h2, r2⟩ => by
    subst e1 e2
    refine OpR.b op_cat ⟨p1, p2, xs, ys, rfl, rfl, f2.g2.keep _ _ (f2.g.keep _ _ h1 rfl) rfl, f2.g2.keep _ _ h2 rfl, line_of (by rw [all_len r1, all_len r2]; exact hl), fun p hp => ?_⟩
    exact q _ _ _ ((f.trans f2).new hp rfl) ⟨p, _, rfl, upd_same, (Ext.new (f2.g2.fresh hp)).dps (all_app (f2.g.dps r1) r2)⟩)
/-! ### parts -/
def cutD (ds : List PyData) (lo hi : Option Int) : List PyData := (ds.drop (HT.sIx ds.length 0 lo)).take (HT.sIx ds.length ds.length hi - HT.sIx ds.length 0 lo)
theorem all_cut {K : PySem.W.Frag} {H : Hp} {xs : List V} (r : DpAll K H xs ds) (lo hi : Option Int) : DpAll K H (cutV xs lo hi) (cutD ds lo hi) := by
  unfold cutV cutD
  rw [all_len r]
  exact all_take _ (all_drop _ r)
def EvO (X : Cx) (o : Option Expr) (σ : L2.St) (H : Hp) (z : Option Int) : Prop := match o, z with
  | none, none => True
  | some e, some i => EvD X e σ H (.int i)
  | _, _ => False
def bP (X : Cx) (o : Option Expr) : TO := match o with
  | none => tNoPart
  | some e => tPart (bE X e)
theorem po_b {o : Option Expr} : PO X o (bP X o) := match o with
  | none => po_none
  | some _ => po_some pe_b
theorem EvO.mono {o : Option Expr} {z : Option Int} (E : Ext H H') (h : EvO X o σ H z) : EvO X o σ H' z := match o, z, h with
  | none, none, _ => trivial
  | some _, some _, h => EvD.mono E h
theorem eo_run {o : Option Expr} {z : Option Int} (h : EvO X o σ H z) {H1 : Hp} (E : Ext H H1) (t : TabsOk X.K H1) {Q : Option Int → Hp → Prop} (q : ∀ G H2, Fr X.K H H1 G H2 → Q z H2) : bP X o σ H1 Q := match o, z, h with
  | none, none, _ => q H H1 (Fr.refl E t)
  | some _, some i, h => h H1 E t _ fun v G H2 f r => by
    cases r
    exact ⟨i, rfl, q G H2 f⟩
theorem cut_whole {xs : List V} {lo hi : Option Int} (h : HT.sIx xs.length 0 lo = 0 ∧ HT.sIx xs.length xs.length hi = xs.length) : cutV xs lo hi = xs := by
  unfold cutV
  rw [h.1, h.2]
  simp
theorem ev_slT {ol oh : Option Expr} {zl zh : Option Int} (ha : EvD X a σ H (.tuple ds)) (hl : EvO X ol σ H zl) (hh : EvO X oh σ H zh) : EvD X (.Subscript a (.Slice ol oh none p2) pos) σ H (.tuple (cutD ds zl zh)) := fun H1 E t Q q =>
  PE.b (pe_slice sl_tupA pe_b po_b po_b) (ha H1 E t _ fun x G H2 f r => eo_run (EvO.mono f.g hl) f.g2 f.tok fun G2 H3 f2 => eo_run (EvO.mono (f.g.trans f2.g) hh) f2.g2 f2.tok fun G3 H4 f3 => by
    have g := f2.g.trans f3.g
    cases r with
    | tup hs r =>
      refine ⟨_, _, rfl, f3.g2.t (g.t hs), fun hw => ?_, fun hw p hp => ?_⟩
      · refine q _ G3 H4 ((f.trans f2).trans f3) ?_
        have e := all_cut (g.dps r) zl zh
        rw [cut_whole hw] at e
        exact .tup (g.t hs) e
      · exact q _ _ _ (((f.trans f2).trans f3).new hp rfl) (.tup (.inl (.inl upd_same)) ((Ext.new (f3.g2.fresh hp)).dps (all_cut (g.dps r) zl zh))))
theorem ek_slL {ol oh : Option Expr} {zl zh : Option Int} (ha : EvD X a σ H (.list ds)) (hl : EvO X ol σ H zl) (hh : EvO X oh σ H zh) : EvK X (.Subscript a (.Slice ol oh none p2) pos) σ H (cutD ds zl zh) := fun H1 E t Q q =>
  PE.b (pe_slice sl_list pe_b po_b po_b) (ha H1 E t _ fun x G H2 f r => eo_run (EvO.mono f.g hl) f.g2 f.tok fun G2 H3 f2 => eo_run (EvO.mono (f.g.trans f2.g) hh) f2.g2 f2.tok fun G3 H4 f3 => by
    have g := f2.g.trans f3.g
    cases r with
    | lst hs r => exact ⟨_, _, rfl, f3.g2.l (g.l hs), fun p hp => q _ _ _ (((f.trans f2).trans f3).new hp rfl) ⟨p, _, rfl, upd_same, (Ext.new (f3.g2.fresh hp)).dps (all_cut (g.dps r) zl zh)⟩⟩)
theorem cutD_take (n : Nat) : cutD ds none (some (n : Int)) = ds.take n := by
  unfold cutD
  rw [HT.sIx_none, HT.sIx_nat, List.drop_zero, Nat.sub_zero]
  rcases Nat.le_total n ds.length with h | h
  · rw [Nat.min_eq_left h]
  · rw [Nat.min_eq_right h, List.take_of_length_le (Nat.le_refl _), List.take_of_length_le h]
theorem cutD_drop (n : Nat) : cutD ds (some (n : Int)) none = ds.drop n := by
  unfold cutD
  rw [HT.sIx_none, HT.sIx_nat]
  rcases Nat.le_total n ds.length with h | h
  · rw [Nat.min_eq_left h, List.take_of_length_le (by rw [List.length_drop]; omega)]
  · rw [Nat.min_eq_right h, List.drop_eq_nil_of_le h, List.drop_eq_nil_of_le (Nat.le_refl _)]; simp
theorem ev_slTt {n : Nat} (ha : EvD X a σ H (.tuple ds)) (hh : EvD X b σ H (.int n)) : EvD X (.Subscript a (.Slice none (some b) none p2) pos) σ H (.tuple (ds.take n)) := by
  rw [← cutD_take n]
  exact ev_slT (ol := none) (oh := some b) (zl := none) (zh := some (n : Int)) ha trivial hh
theorem ev_slTf {n : Nat} (ha : EvD X a σ H (.tuple ds)) (hh : EvD X b σ H (.int n)) : EvD X (.Subscript a (.Slice (some b) none none p2) pos) σ H (.tuple (ds.drop n)) := by
  rw [← cutD_drop n]
  exact ev_slT (ol := some b) (oh := none) (zl := some (n : Int)) (zh := none) ha hh trivial
theorem ek_slLt {n : Nat} (ha : EvD X a σ H (.list ds)) (hh : EvD X b σ H (.int n)) : EvK X (.Subscript a (.Slice none (some b) none p2) pos) σ H (ds.take n) := by
  rw [← cutD_take n]
  exact ek_slL (ol := none) (oh := some b) (zl := none) (zh := some (n : Int)) ha trivial hh
theorem ek_slLf {n : Nat} (ha : EvD X a σ H (.list ds)) (hh : EvD X b σ H (.int n)) : EvK X (.Subscript a (.Slice (some b) none none p2) pos) σ H (ds.drop n) := by
  rw [← cutD_drop n]
  exact ek_slL (ol := some b) (oh := none) (zl := some (n : Int)) (zh := none) ha hh trivial
theorem cutD_both (n m : Nat) : cutD ds (some (n : Int)) (some (m : Int)) = (ds.take m).drop n := by
  unfold cutD
  rw [HT.sIx_nat, HT.sIx_nat]
  rw [List.drop_take]
  rcases Nat.le_total n ds.length with h | h
  · rw [Nat.min_eq_left h]
    rcases Nat.le_total m ds.length with h2 | h2
    · rw [Nat.min_eq_left h2]
    · rw [Nat.min_eq_right h2, List.take_of_length_le (by rw [List.length_drop]; omega), List.take_of_length_le (by rw [List.length_drop]; omega)]
  · rw [Nat.min_eq_right h, List.drop_eq_nil_of_le h, List.drop_eq_nil_of_le (Nat.le_refl _)]; simp
theorem ek_slLb {n m : Nat} (ha : EvD X a σ H (.list ds)) (hl : EvD X b σ H (.int n)) (hh : EvD X c σ H (.int m)) : EvK X (.Subscript a (.Slice (some b) (some c) none p2) pos) σ H ((ds.take m).drop n) := by
  rw [← cutD_both n m]
  exact ek_slL (ol := some b) (oh := some c) (zl := some (n : Int)) (zh := some (m : Int)) ha hl hh
/-! ### tuples joined -/
theorem opd_catT (hl : ds1.length + ds2.length ≤ 100000) : OpD X (binaryOp .Add) H (.tuple ds1) (.tuple ds2) (.tuple (ds1 ++ ds2)) := fun G H1 _ E t x y hx hy Q q => by
  cases hx with
  | tup h1 r1 =>
    cases hy with
    | tup h2 r2 =>
      refine OpR.b op_catA ⟨_, _, _, _, rfl, rfl, E.t h1, E.t h2, line_of (by rw [all_len r1, all_len r2]; exact hl), fun z => ?_, fun z1 z2 => ?_, fun z1 z2 p hp => ?_⟩
      · subst z
        cases r1
        exact q _ G H1 (Fr.refl E t) (.tup h2 r2)
      · subst z2
        cases r2
        rw [List.append_nil] at q
        exact q _ G H1 (Fr.refl E t) (.tup h1 r1)
      · exact q _ _ _ ((Fr.refl E t).new hp rfl) (.tup (.inl (.inl upd_same)) ((Ext.new (E.fresh hp)).dps (all_app r1 r2)))
theorem ev_catT (ha : EvD X a σ H (.tuple ds1)) (hb : EvD X b σ H (.tuple ds2)) (hl : ds1.length + ds2.length ≤ 100000) : EvD X (.BinOp a .Add b pos) σ H (.tuple (ds1 ++ ds2)) := ev_bin ha hb (opd_catT hl)
/-! ### list(..) -/
theorem ek_listT (ha : EvD X a σ H (.tuple ds)) (hm : X.mg "list" = none) (hg : Gl X "list" := by rfl) (he : starEach [a] X.env = (false, eval a X.env) :: starEach [] X.env := by rfl) : EvK X (.Call (.Name "list" p) [a] [] pos) σ H ds := fun H1 E t Q q =>
  PE.b (pe_callTy call_list_of hg hm (by decide +kernel) (pa_cons pe_b pa_nil he) (by decide) (by decide) he) (ha H1 E t _ fun v G H2 f r => by
    cases r with
    | tup hs r => exact ⟨_, _, rfl, .inr (f.g2.t hs), fun l hl => q _ _ _ (f.new hl rfl) ⟨l, _, rfl, upd_same, (Ext.new (f.g2.fresh hl)).dps r⟩⟩)
theorem ek_listL (ha : EvD X a σ H (.list ds)) (hm : X.mg "list" = none) (hg : Gl X "list" := by rfl) (he : starEach [a] X.env = (false, eval a X.env) :: starEach [] X.env := by rfl) : EvK X (.Call (.Name "list" p) [a] [] pos) σ H ds := fun H1 E t Q q =>
  PE.b (pe_callTy call_list_of hg hm (by decide +kernel) (pa_cons pe_b pa_nil he) (by decide) (by decide) he) (ha H1 E t _ fun v G H2 f r => by
    cases r with
    | lst hs r => exact ⟨_, _, rfl, .inl (f.g2.l hs), fun l hl => q _ _ _ (f.new hl rfl) ⟨l, _, rfl, upd_same, (Ext.new (f.g2.fresh hl)).dps r⟩⟩)
/-! ### not in range(n) -/
theorem cr_range1 : CallR X (.type "range") (fun vs H Q => ∃ j, vs = [V.int j] ∧ ∀ p, H p = none → Q (.ref p) (upd H p (.rng 0 j))) := by
  intro pins s σ H vs us Q I r h
  obtain ⟨j, rfl, q⟩ := h
  obtain ⟨u, rfl, ru⟩ := r.one
  obtain ⟨t, rfl⟩ := ru
  refine call_range_1 ⟨.ref s.heap.objs.size, upd H s.heap.objs.size (.rng 0 j), I.laid (t' := s.toks + 1 + 1) (fun b o e => Heap.get?_push_of_some _ e) (Nat.le_refl _) ?_, rfl, q _ (I.hok.fresh (Nat.le_refl _))⟩
  exact ⟨s.toks, t, s.toks + 1, Heap.get?_push_size _ rfl⟩
theorem op_notIn_rng : OpR X (compareOp .NotIn) (fun x y H Q => ∃ i a lo hi, x = V.int i ∧ y = V.ref a ∧ H a = some (.rng lo hi) ∧ Q (.bl (!decide (lo ≤ i ∧ i < hi))) H) := by
  intro pins s σ H x y v u Q I rx ry h
  obtain ⟨i, a, lo, hi, rfl, rfl, ha, q⟩ := h
  obtain ⟨k, rfl⟩ := rx
  obtain rfl : u = Value.ref a := ry
  obtain ⟨t1, t2, t3, ho⟩ := I.hok a _ ha
  show wpAny _ _ (do return Value.bool (!(← contains (Value.ref a) (Value.int i k)))) _ _ s
  refine wpAny_bind (wpAny_contains_slot (T := "range") ⟨_, ho, rfl⟩ F.slot_range_contains (call_meets F.slot_range_contains ⟨_, ho, rfl⟩ F.entry_range_contains (F.args_range_contains_2 _ _) (q_contains a lo hi i t1 t2 t3 k)
    ⟨ho, wpAny_truthy_bool (wpAny_pure ⟨.bl _, H, I, rfl, ?_⟩)⟩))
  rw [place1]
  exact q
theorem et_notInR (ha : EvD X a σ H (.int i)) (hb : EvD X b σ H (.int j)) (hm : X.mg "range" = none) (hg : Gl X "range" := by rfl) (he : starEach [b] X.env = (false, eval b X.env) :: starEach [] X.env := by rfl) (hmk : behindInMarks .NotIn (.Call (.Name "range" p) [b] [] p2) = false := by rfl) :
    EvT X (.Compare a [.NotIn] [.Call (.Name "range" p) [b] [] p2] pos) σ H (!decide (0 ≤ i ∧ i < j)) := fun H1 E t Q q =>
  PT.b (pt_cmpR op_notIn_rng pe_b (pe_callTy cr_range1 hg hm (by decide +kernel) (pa_cons pe_b pa_nil he) (by decide) (by decide) he) hmk) (ha H1 E t _ fun x G H2 f r => hb.mono f.g H2 f.g2 f.tok _ fun y G2 H3 f2 r2 => by
    cases r; cases r2
    refine ⟨j, rfl, fun p hp => ⟨i, p, 0, j, rfl, rfl, upd_same, _, rfl, q _ _ ((f.trans f2).new hp rfl)⟩⟩)
/-! ### e is True, e is False -/
theorem ev_isB (ha : EvD X a σ H (.bool k)) (hb : EvD X b σ H (.bool l)) (hm : behindInMarks .Is b = false := by rfl) : EvD X (.Compare a [.Is] [b] pos) σ H (.bool (decide (k = l))) := ev_cmp ha hb (fun G H1 _ E t x y hx hy Q q => by
  cases hx; cases hy
  exact OpR.b op_isBl ⟨k, l, rfl, rfl, q _ G H1 (Fr.refl E t) (.bl _)⟩) hm
end
end C

namespace C
open PySem PySem.W L2
/-- the end where one def holds a generator expression: what is known of that def's table goes into the promise -/
theorem walk_tab {l : OpenLaw} {n k : Nat} {q : Program} {loose : List Str} {XP : (Str → Option Value) → Heap → Prop} {YP : World → Heap → Prop} {d : DefRec} {K : Params → Frag}
    {CX : World → CXT} {x key : Str} (h1 : l.most = some n) (h2 : n ≤ sizeLine) (h3 : d.params.defaults = []) (room : Room k callerA) (hkey : ∃ dk, (PyProof.Rows.recsOf q).find? (fun e => e.name == key) = some dk)
    (inK : ∀ (w : World) (h : Heap), YP w h → (K w.params).In h)
    (F : ∀ (w : World) (mg : Str → Option Value) (fa : Addr) (h : Heap), (K w.params).In h → h.Ns mainGlobals mg → mg d.name = some (.ref fa) →
      (∀ c P, tabIn (K w.params) key = some (c, P) → CodeHd h c P ∧ h.get? P = some { cls := .none, data := .fields #[] }) → LamX.LawAtS l w (K w.params) (CX w) k n x mg fa h)
    (noX : ∀ (w : World) (H : Hp) (s : Shared) (e : Value) (s' : Shared), CX w [] H s (fun _ _ _ => False) e s' → False) : WalkO q loose XP YP l.row.toRowW d [] (fun f vs => PySem.call f vs) := by
  refine Att.attach_callB h1 h3 ?_
  intro w sA sB mg mb fa o pm cd doc a vs ns ground y _ _ _ named scr scrInts few bits noGens
  have kin := inK w _ y
  obtain ⟨dk, hkey⟩ := hkey
  obtain ⟨fd, cs, sp, tabs, noTabs, codes, binds, promise, body⟩ := F w mg fa _ kin ground.T.g named fun c P e => tab_of ground.T kin hkey e
  exact LamX.law_callTs kin ground.T.g ground.T.b ground.T.builtins ground.T.nolimit noGens tabs noTabs codes ground.T.bmain scr scrInts
    (Nat.le_trans few h2) room body binds (fun H a1 a2 => promise H a ns few bits a1 a2) (fun H e s' => noX w H _ e s')
theorem tabIn_mk {K : Frag} {x : Str} {f c P : Addr} {oc e : Value} {od dd : Option Addr} {osl sl : Array (Option Value)} {fd : FuncData} {vs : Array Value} (a : nsIn K mainGlobals x = some (some (.ref f)))
    (b : K.lookup f = some ⟨oc, od, .func fd, osl⟩) (hc : fd.code = .ref c) (k : K.lookup c = some ⟨e, dd, .fields vs, sl⟩) (v : (vs[11]? : Option Value) = some (.ref P)) : tabIn K x = some (c, P) := by
  unfold tabIn
  simp only [a, b, hc, k, v]
theorem tabB_of {base : Heap} {mg : Str → Option Value} {c P : Addr} (t : LamX.TabB base mg c P) : GxR.TabB base mg c P := ⟨t.code, t.bm, t.gP⟩
theorem ints_dp {K : Frag} {H : Hp} : ∀ ns : List Int, DpAll K H (ns.map V.int) (ns.map PyData.int)
  | [] => .nil
  | n :: ns => .cons (.int n) (ints_dp ns)
end C

namespace C
open PySem L2
/-! ### comprehensions -/
section
variable {X : Cx} {σ : L2.St} {H : Hp} {elt iter : Expr} {x : Str} {px pos p1 p2 : Pos} {scope : Scope} {m : Expr} {N : Int}
/-- the context of a comprehension's block -/
abbrev bk (X : Cx) (scope : Scope) (s : Shared) (H : Hp) (C : Addr) (cl : List (Str × Addr)) (fp : List Addr) : Cx := X.blk s H scope (compEnvC scope cl C X.env) fp
def bLc (X : Cx) (scope : Scope) (e : Expr) : TE := fun σ H Q => ∀ s H0 C cl fp, bE (bk X scope s H0 C cl fp) e σ H Q
def bLt (X : Cx) (scope : Scope) (ifs : List Expr) : TT := fun σ H Q => ∀ s H0 C cl fp pins s', Inv (bk X scope s H0 C cl fp) pins σ H s' →
  wpAny (model X.prog X.w) (bk X scope s H0 C cl fp).A (forIn ifs true fun c r => if r = true then do let ok ← isTrue c (bk X scope s H0 C cl fp).env (eval c (bk X scope s H0 C cl fp).env); pure (ForInStep.yield ok) else pure (ForInStep.yield r)) (TP (bk X scope s H0 C cl fp) pins σ Q) (bk X scope s H0 C cl fp).xe s'
theorem Ext.add {G H : Hp} {D : Addr} {o : HO} (e : Ext G H) (h : H D = some o) (n : isTbl o = false) : Ext (upd G D o) H where
  keep := fun a u ha t => by
    by_cases z : a = D
    · subst z; rw [upd_same] at ha; cases ha; exact h
    · rw [upd_ne z] at ha; exact e.keep a u ha t
  tb := fun a u ha => by
    by_cases z : a = D
    · subst z; rw [upd_same] at ha; cases ha; cases n
    · rw [upd_ne z] at ha; exact e.tb a u ha
/-- a known object goes into the base -/
theorem Fr.add {K : PySem.W.Frag} {H H1 G H2 : Hp} {D : Addr} {o : HO} (f : Fr K H H1 G H2) (h : H2 D = some o) (n : isTbl o = false) (h1 : H1 D = none) (hG : G D = none) : Fr K H H1 (upd G D o) H2 :=
  ⟨f.g.trans (Ext.new hG), f.g2.add h n, f.h, fun b u q r => by rw [upd_ne (ne_of_none r h1)]; exact f.off b u q r, f.tok⟩
/-- an object that neither the base nor the first heap knows is written -/
theorem Fr.put {K : PySem.W.Frag} {H H1 G H2 : Hp} {D : Addr} {o : HO} (f : Fr K H H1 G H2) (n : isTbl o = false) (h1 : H1 D = none) (hG : G D = none) : Fr K H H1 G (upd H2 D o) :=
  ⟨f.g, f.g2.mut hG, f.h.mut h1, f.off, f.tok.upd n⟩
structure LcI (K : PySem.W.Frag) (H H1 : Hp) (D : Addr) (ds : List PyData) (H' : Hp) : Prop where
  ex : ∃ G vs, Fr K H H1 G H' ∧ G D = none ∧ H' D = some (.lst vs) ∧ DpAll K G vs ds
/-- [elt for x in range(m)] -/
theorem ek_lcR (i : Nat) (f : Nat → PyData) (h : EvD X m σ H (.int N)) (hsz : 0 ≤ N ∧ N ≤ 40000) (hN : X.N.Nodup)
    (he : ∀ (j : Nat) s H0 C cl fp G, (j : Int) < N → Ext H G → EvD (bk X scope s H0 C cl fp) elt ((wipe σ [i]).set i (some (.int (j : Int)))) G (f j))
    (ok : BlkOk X.N X.env.scope scope [(x, i)]) (hm : X.mg "range" = none) (hw : ∀ y, wipe ((wipe σ [i]).set i (some y)) [i] = wipe σ [i])
    (hi : X.N[i]? = some x := by rfl) (hl : Loc scope x := by first | exact Or.inl rfl | exact Or.inr rfl) (hx : ∀ s H0 C cl fp, PG (bk X scope s H0 C cl fp) (.Name x px) (gName i)) (hg : Gl X "range" := by rfl) (hc : X.calm = true := by rfl)
    (hst : starEach [m] X.env = [(false, eval m X.env)] := by rfl) (hfs : ∀ y, foldedSetIterable (.Call (.Name "range" p1) [m] [] p2) X.env y = pure y := by intro _; rfl) :
    EvK X (.ListComp elt [⟨.Name x px, .Call (.Name "range" p1) [m] [] p2, [], 0⟩] scope pos) σ H ((List.range N.toNat).map f) := fun H1 E t Q q =>
  PE.b (pe_lc (own := [(x, i)]) (te := bLc X scope elt) hc hN (pi_range1 hg hm (pa_cons pe_b pa_nil hst) hst) ok hx (fun _ _ _ _ _ => pts_nil) (fun s H0 C cl fp => ⟨fun pins s' _ _ _ I h => h s H0 C cl fp pins s' I⟩) hfs)
    (h H1 E t _ fun v G0 H2 f0 r => by
      cases r
      refine ⟨N, rfl, by omega, by omega, fun D hD => ?_⟩
      have hD1 := f0.h.fresh hD
      have hDG := f0.g2.fresh hD
      refine lc_range (lo := 0) (n := N.toNat) (fun j H' => LcI X.K H H1 D ((List.range j).map f) H') ⟨⟨G0, [], f0.put rfl hD1 hDG, hDG, upd_same, .nil⟩⟩ (fun j H' hj p => ?_) (fun H' p => ?_)
      · obtain ⟨G, vs, F, gD, hDl, r⟩ := p.ex
        have e0 : (0 : Int) + (j : Int) = (j : Int) := Int.zero_add _
        show wipe ((wipe σ [i]).set i (some (.int ((0 : Int) + (j : Int))))) [i] = wipe σ [i] ∧ _
        rw [e0]
        refine ⟨hw _, fun s H0 C cl fp => ?_⟩
        refine he j s H0 C cl fp G (by omega) F.g H' F.g2 F.tok _ fun v G2 H3 f2 r2 => ?_
        have gD2 := f2.off D _ gD hDl
        have hD3 := f2.h.keep _ _ hDl rfl
        refine ⟨vs, hD3, ?_, ⟨⟨G2, vs ++ [v], (F.trans f2).put rfl hD1 gD2, gD2, upd_same, ?_⟩⟩⟩
        · have := all_len r
          rw [List.length_map, List.length_range] at this
          exact Nat.lt_of_le_of_lt (by omega : vs.length ≤ 40000) (by decide)
        · rw [List.range_succ, List.map_append]
          exact all_app (f2.g.dps r) (.cons r2 .nil)
      · obtain ⟨G, vs, F, gD, hDl, r⟩ := p.ex
        exact q _ _ H' (F.add hDl rfl hD1 gD) ⟨D, vs, rfl, upd_same, (Ext.new gD).dps r⟩)
/-- what a comprehension over a list of data reads -/
theorem rd_lcL {ds : List PyData} {ifs : List Expr} (i : Nat) (t : PyData → Bool) (f : PyData → PyData) (h : EvD X iter σ H (.list ds)) (hsz : ds.length ≤ 40000)
    (ht : ∀ d v s H0 C cl fp G, d ∈ ds → Ext H G → Dp X.K G v d → ∀ H1, Ext G H1 → TabsOk X.K H1 → ∀ Q : Bool → Hp → Prop, (∀ G2 H2, Fr X.K G H1 G2 H2 → Q (t d) H2) → ∀ pins s', Inv (bk X scope s H0 C cl fp) pins ((wipe σ [i]).set i (some v)) H1 s' →
      wpAny (model X.prog X.w) (bk X scope s H0 C cl fp).A (forIn ifs true fun c r => if r = true then do let ok ← isTrue c (bk X scope s H0 C cl fp).env (eval c (bk X scope s H0 C cl fp).env); pure (ForInStep.yield ok) else pure (ForInStep.yield r)) (TP (bk X scope s H0 C cl fp) pins ((wipe σ [i]).set i (some v)) Q) (bk X scope s H0 C cl fp).xe s')
    (he : ∀ d v s H0 C cl fp G, d ∈ ds → Ext H G → Dp X.K G v d → t d = true → EvD (bk X scope s H0 C cl fp) elt ((wipe σ [i]).set i (some v)) G (f d))
    (hw : ∀ y, wipe ((wipe σ [i]).set i (some y)) [i] = wipe σ [i])
    {H1 : Hp} (E : Ext H H1) (tk : TabsOk X.K H1) (Q : VK) (q : ∀ v G H2, Fr X.K H H1 G H2 → (∃ a xs, v = .ref a ∧ G a = some (.lst xs) ∧ DpAll X.K G xs ((ds.filter t).map f)) → Q v H2) :
    tLc (iList X.K (bE X iter)) (gName i) (bLt X scope ifs) (bLc X scope elt) [i] σ H1 Q :=
    (h H1 E tk _ fun v G0 H2 f0 r => by
      cases r with
      | @lst ad xs _ hs r0 =>
      refine ⟨ad, rfl, ⟨xs, f0.g2.l hs⟩, fun D hD => ?_⟩
      have hD1 := f0.h.fresh hD
      have hDG := f0.g2.fresh hD
      have hln := all_len r0
      refine lc_list (xs := xs) (fun j H' => (∃ G vs, Fr X.K H H1 G H' ∧ G D = none ∧ Ext G0 G ∧ H' D = some (.lst vs) ∧ DpAll X.K G vs (((ds.take j).filter t).map f))) ⟨G0, [], f0.put rfl hD1 hDG, hDG, Ext.refl _, upd_same, .nil⟩ (fun j H' hj p => ?_) (fun j y H' hj p => ?_) (fun H' p => ?_)
      · obtain ⟨G, vs, F, gD, g0, hDl, r⟩ := p
        exact F.g2.l (g0.l hs)
      · obtain ⟨G, vs, F, gD, g0, hDl, r⟩ := p
        have hjl := (List.getElem?_eq_some_iff.mp hj).1
        obtain ⟨d, hd⟩ : ∃ d, ds[j]? = some d := ⟨_, List.getElem?_eq_getElem (by omega)⟩
        obtain ⟨y', hy1, hy2⟩ := all_get r0 hd
        rw [hj] at hy1
        cases hy1
        have md := List.mem_of_getElem? hd
        have tk1 : ds.take (j + 1) = ds.take j ++ [d] := by rw [List.take_add_one, hd]; rfl
        have hv : vs.length < sizeLine := by
          have := all_len r
          rw [List.length_map] at this
          have h2 := List.length_filter_le t (ds.take j)
          rw [List.length_take] at h2
          exact Nat.lt_of_le_of_lt (by omega : vs.length ≤ 40000) (by decide)
        refine ⟨hw _, fun s H0 C cl fp => ?_⟩
        refine ht d y s H0 C cl fp G md F.g (g0.dp hy2) H' F.g2 F.tok _ fun G2 H3 f2 => ?_
        have gD2 := f2.off D _ gD hDl
        have hD3 := f2.h.keep _ _ hDl rfl
        cases htd : t d with
        | false =>
          refine ⟨G2, vs, F.trans f2, gD2, g0.trans f2.g, hD3, ?_⟩
          rw [tk1, List.filter_append, List.filter_cons, if_neg (by rw [htd]; decide), List.filter_nil, List.append_nil]
          exact f2.g.dps r
        | true =>
          intro s H0 C cl fp
          refine he d y s H0 C cl fp G2 md (F.g.trans f2.g) (f2.g.dp (g0.dp hy2)) htd H3 f2.g2 f2.tok _ fun v G3 H4 f3 r2 => ?_
          have gD3 := f3.off D _ gD2 hD3
          refine ⟨vs, f3.h.keep _ _ hD3 rfl, hv, ⟨G3, vs ++ [v], ((F.trans f2).trans f3).put rfl hD1 gD3, gD3, (g0.trans f2.g).trans f3.g, upd_same, ?_⟩⟩
          rw [tk1, List.filter_append, List.filter_cons, if_pos htd, List.filter_nil, List.map_append]
          exact all_app (f3.g.dps (f2.g.dps r)) (.cons r2 .nil)
      · obtain ⟨G, vs, F, gD, g0, hDl, r⟩ := p
        rw [hln, List.take_length] at r
        exact q _ _ H' (F.add hDl rfl hD1 gD) ⟨D, vs, rfl, upd_same, (Ext.new gD).dps r⟩)
/-- [elt for x in l if ..] over a list of data -/
theorem ek_lcL {ds : List PyData} {ifs : List Expr} (i : Nat) (t : PyData → Bool) (f : PyData → PyData) (h : EvD X iter σ H (.list ds)) (hsz : ds.length ≤ 40000) (hN : X.N.Nodup)
    (ht : ∀ d v s H0 C cl fp G, d ∈ ds → Ext H G → Dp X.K G v d → ∀ H1, Ext G H1 → TabsOk X.K H1 → ∀ Q : Bool → Hp → Prop, (∀ G2 H2, Fr X.K G H1 G2 H2 → Q (t d) H2) → ∀ pins s', Inv (bk X scope s H0 C cl fp) pins ((wipe σ [i]).set i (some v)) H1 s' →
      wpAny (model X.prog X.w) (bk X scope s H0 C cl fp).A (forIn ifs true fun c r => if r = true then do let ok ← isTrue c (bk X scope s H0 C cl fp).env (eval c (bk X scope s H0 C cl fp).env); pure (ForInStep.yield ok) else pure (ForInStep.yield r)) (TP (bk X scope s H0 C cl fp) pins ((wipe σ [i]).set i (some v)) Q) (bk X scope s H0 C cl fp).xe s')
    (he : ∀ d v s H0 C cl fp G, d ∈ ds → Ext H G → Dp X.K G v d → t d = true → EvD (bk X scope s H0 C cl fp) elt ((wipe σ [i]).set i (some v)) G (f d))
    (ok : BlkOk X.N X.env.scope scope [(x, i)]) (hw : ∀ y, wipe ((wipe σ [i]).set i (some y)) [i] = wipe σ [i])
    (hx : ∀ s H0 C cl fp, PG (bk X scope s H0 C cl fp) (.Name x px) (gName i)) (hc : X.calm = true := by rfl)
    (hfs : ∀ y, foldedSetIterable iter X.env y = pure y := by intro _; rfl) :
    EvK X (.ListComp elt [⟨.Name x px, iter, ifs, 0⟩] scope pos) σ H ((ds.filter t).map f) := fun H1 E tk Q q =>
  PE.b (pe_lc (own := [(x, i)]) (te := bLc X scope elt) (tt := bLt X scope ifs) hc hN (pi_list pe_b) ok hx (fun s H0 C cl fp => ⟨fun pins s' _ _ _ I h => h s H0 C cl fp pins s' I⟩) (fun s H0 C cl fp => ⟨fun pins s' _ _ _ I h => h s H0 C cl fp pins s' I⟩) hfs)
    (rd_lcL i t f h hsz ht he hw E tk Q q)
/-- y = [elt for x in l if ..] -/
theorem bb_setLcL {y : Str} {py spos : Pos} {sts : List Stmt} {D : Ends} {Hb : Hp} (k : Nat) {ds : List PyData} {ifs : List Expr} (i : Nat) (t : PyData → Bool) (f : PyData → PyData) (h : EvD X iter σ Hb (.list ds)) (hsz : ds.length ≤ 40000) (hN : X.N.Nodup)
    (ht : ∀ d v s H0 C cl fp G, d ∈ ds → Ext Hb G → Dp X.K G v d → ∀ H1, Ext G H1 → TabsOk X.K H1 → ∀ Q : Bool → Hp → Prop, (∀ G2 H2, Fr X.K G H1 G2 H2 → Q (t d) H2) → ∀ pins s', Inv (bk X scope s H0 C cl fp) pins ((wipe σ [i]).set i (some v)) H1 s' →
      wpAny (model X.prog X.w) (bk X scope s H0 C cl fp).A (forIn ifs true fun c r => if r = true then do let ok ← isTrue c (bk X scope s H0 C cl fp).env (eval c (bk X scope s H0 C cl fp).env); pure (ForInStep.yield ok) else pure (ForInStep.yield r)) (TP (bk X scope s H0 C cl fp) pins ((wipe σ [i]).set i (some v)) Q) (bk X scope s H0 C cl fp).xe s')
    (he : ∀ d v s H0 C cl fp G, d ∈ ds → Ext Hb G → Dp X.K G v d → t d = true → EvD (bk X scope s H0 C cl fp) elt ((wipe σ [i]).set i (some v)) G (f d))
    (ok : BlkOk X.N X.env.scope scope [(x, i)]) (hw : ∀ y, wipe ((wipe σ [i]).set i (some y)) [i] = wipe σ [i])
    (hx : ∀ s H0 C cl fp, PG (bk X scope s H0 C cl fp) (.Name x px) (gName i)) (hc : X.calm = true := by rfl)
    (hfs : ∀ y, foldedSetIterable iter X.env y = pure y := by intro _; rfl)
    {H1 : Hp} (E : Ext Hb H1) (tk : TabsOk X.K H1) (q : ∀ v G H2, Fr X.K Hb H1 G H2 → Dp X.K G v (.list ((ds.filter t).map f)) → bB X sts D (σ.set k (some v)) H2) (hy : X.N[k]? = some y := by rfl) (hyl : X.env.scope.names.lookup y = some .local := by rfl)
    (hsw : swapsWith (.ListComp elt [⟨.Name x px, iter, ifs, 0⟩] scope pos) (some (.Name y py)) spos.line X.env = pure true := by rfl) :
    bB X (.Assign [.Name y py] (.ListComp elt [⟨.Name x px, iter, ifs, 0⟩] scope pos) spos :: sts) D σ H1 :=
  bb_cons (PS.b (ps_setLc (own := [(x, i)]) (te := bLc X scope elt) (tt := bLt X scope ifs) hc hN hy hyl hsw (pi_list pe_b) ok hx (fun s H0 C cl fp => ⟨fun pins s' _ _ _ I h => h s H0 C cl fp pins s' I⟩) (fun s H0 C cl fp => ⟨fun pins s' _ _ _ I h => h s H0 C cl fp pins s' I⟩) hfs)
    (rd_lcL i t f h hsz ht he hw E tk _ fun v G H2 F ⟨a, xs, e, h1, r⟩ => by
      subst e
      exact q _ G H2 F (.lst (.inl (.inl h1)) r)))
end
end C

namespace C
open PySem L2
/-! ### texts by their lists of signs -/
def S (l : List Nat) : Str := ⟨l.toArray⟩
theorem S_list (l : List Nat) : (S l).cps.toList = l := by simp [S]
theorem S_len (l : List Nat) : (S l).length = l.length := by simp [S, Str.length]
theorem S_app (a b : List Nat) : S a ++ S b = S (a ++ b) := by
  show (⟨(S a).cps ++ (S b).cps⟩ : Str) = S (a ++ b)
  simp [S]
theorem S_eta (z : Str) : S z.cps.toList = z := by simp [S]
theorem S_inj {a b : List Nat} (h : S a = S b) : a = b := by
  have := congrArg (fun z : Str => z.cps.toList) h
  simpa [S_list] using this
def abc : Str := "abcdefghijklmnopqrstuvwxyz"
def letter (c : Nat) : Bool := !decide ([c] < (Str.ofString "a").cps.toList) && !decide ((Str.ofString "z").cps.toList < [c])
theorem abc_len : abc.cps.toList.length = 26 := by decide +kernel
theorem abc_letter : ∀ i < 26, letter (abc.cps.toList.getD i 97) = true ∧ abc.cps.toList.getD i 97 < 128 := by decide +kernel
def abcAt (i : Int) : Nat := abc.cps.toList.getD i.toNat 97
theorem abcAt_letter (i : Int) : letter (abcAt i) = true ∧ abcAt i < 128 := by
  unfold abcAt
  by_cases h : i.toNat < 26
  · exact abc_letter _ h
  · rw [List.getD_eq_getElem?_getD, List.getElem?_eq_none (by rw [abc_len]; omega)]
    decide +kernel
theorem abcAt_at {i : Int} (h0 : 0 ≤ i) (h : i < 26) : atI abc.cps.toList i = some (abcAt i) := by
  obtain ⟨n, rfl⟩ := Int.eq_ofNat_of_zero_le h0
  have hn : n < abc.cps.toList.length := by rw [abc_len]; omega
  unfold abcAt
  rw [Int.toNat_natCast, List.getD_eq_getElem?_getD]
  rw [List.getElem?_eq_getElem hn]
  exact atI_nat (List.getElem?_eq_getElem hn)
theorem str_join1 (cs : List Nat) : Str.join (S []) (cs.map fun c => S [c]) = S cs := by
  induction cs with
  | nil => rfl
  | cons c r ih =>
    cases r with
    | nil => rfl
    | cons d r =>
      show S [c] ++ S [] ++ Str.join (S []) ((d :: r).map fun c => S [c]) = S (c :: d :: r)
      rw [ih, S_app, S_app]
      rfl
theorem txt_join1 (cs : List Nat) : Txt.join (S []) (cs.map fun c => S [c]) = S cs := by rw [TL.join_eq, str_join1]
def cutN (l : List Nat) (lo hi : Option Int) : List Nat := (l.drop (HT.sIx l.length 0 lo)).take (HT.sIx l.length l.length hi - HT.sIx l.length 0 lo)
theorem cutS_S (l : List Nat) (lo hi : Option Int) : cutS (S l) lo hi = S (cutN l lo hi) := by
  unfold cutS cutN
  rw [S_list, S_len]
  rfl
theorem cutN_take (l : List Nat) (n : Nat) : cutN l none (some (n : Int)) = l.take n := by
  unfold cutN
  rw [HT.sIx_none, HT.sIx_nat, List.drop_zero, Nat.sub_zero]
  rcases Nat.le_total n l.length with h | h
  · rw [Nat.min_eq_left h]
  · rw [Nat.min_eq_right h, List.take_of_length_le (Nat.le_refl _), List.take_of_length_le h]
theorem cutN_drop (l : List Nat) (n : Nat) : cutN l (some (n : Int)) none = l.drop n := by
  unfold cutN
  rw [HT.sIx_none, HT.sIx_nat]
  rcases Nat.le_total n l.length with h | h
  · rw [Nat.min_eq_left h, List.take_of_length_le (by rw [List.length_drop]; omega)]
  · rw [Nat.min_eq_right h, List.drop_eq_nil_of_le h, List.drop_eq_nil_of_le (Nat.le_refl _)]; simp
section
variable {X : Cx} {σ : L2.St} {H : Hp} {a b e o : Expr} {es : List Expr} {ds : List PyData} {l : List Nat} {pos p p2 apos : Pos} {d : PyData}
theorem ev_slS {ol oh : Option Expr} {zl zh : Option Int} (ha : EvD X a σ H (.str (S l))) (hz : l.length ≤ 100000) (hl : EvO X ol σ H zl) (hh : EvO X oh σ H zh) : EvD X (.Subscript a (.Slice ol oh none p2) pos) σ H (.str (S (cutN l zl zh))) := fun H1 E t Q q =>
  PE.b (pe_slice sl_str pe_b po_b po_b) (ha H1 E t _ fun x G H2 f r => eo_run (EvO.mono f.g hl) f.g2 f.tok fun G2 H3 f2 => eo_run (EvO.mono (f.g.trans f2.g) hh) f2.g2 f2.tok fun G3 H4 f3 => by
    cases r
    refine ⟨_, rfl, line_of (by rw [S_len]; exact hz), ?_⟩
    rw [cutS_S]
    exact q _ G3 H4 ((f.trans f2).trans f3) (.str _))
theorem ev_slSt {n : Nat} (ha : EvD X a σ H (.str (S l))) (hz : l.length ≤ 100000) (hh : EvD X b σ H (.int n)) : EvD X (.Subscript a (.Slice none (some b) none p2) pos) σ H (.str (S (l.take n))) := by
  rw [← cutN_take l n]
  exact ev_slS (ol := none) (oh := some b) (zl := none) (zh := some (n : Int)) ha hz trivial hh
theorem ev_slSf {n : Nat} (ha : EvD X a σ H (.str (S l))) (hz : l.length ≤ 100000) (hh : EvD X b σ H (.int n)) : EvD X (.Subscript a (.Slice (some b) none none p2) pos) σ H (.str (S (l.drop n))) := by
  rw [← cutN_drop l n]
  exact ev_slS (ol := some b) (oh := none) (zl := some (n : Int)) (zh := none) ha hz hh trivial
theorem ev_catN {l2 : List Nat} (ha : EvD X a σ H (.str (S l))) (hb : EvD X b σ H (.str (S l2))) (h : l.length + l2.length ≤ 100000) : EvD X (.BinOp a .Add b pos) σ H (.str (S (l ++ l2))) := (ev_catS ha hb (by rw [S_len, S_len]; exact h)).to (by rw [S_app])
theorem ev_ixN {n : Int} {m : Nat} (ha : EvD X a σ H (.str (S l))) (hb : EvD X b σ H (.int n)) (hl : l.length ≤ 100000) (h : atI l n = some m) (hs : PlainIx b := by exact fun _ _ => rfl) : EvD X (.Subscript a b pos) σ H (.str (S [m])) :=
  ev_ixS ha hb (by rw [S_len]; exact hl) (by rw [S_list]; exact h) hs
theorem dpall_str {K : PySem.W.Frag} {H : Hp} : ∀ {ys : List Str} {vs : List V}, DpAll K H vs (ys.map PyData.str) → vs = ys.map V.str
  | [], _, h => by cases h; rfl
  | y :: ys, _, h => by
    obtain ⟨v, us, rfl, h1, h2⟩ := allc h
    rw [dp_str h1, dpall_str h2]; rfl
theorem dpall_int {K : PySem.W.Frag} {H : Hp} : ∀ {ys : List Int} {vs : List V}, DpAll K H vs (ys.map PyData.int) → vs = ys.map V.int
  | [], _, h => by cases h; rfl
  | y :: ys, _, h => by
    obtain ⟨v, us, rfl, h1, h2⟩ := allc h
    rw [dp_int h1, dpall_int h2]; rfl
/-- ''.join(one sign each) -/
theorem ev_join1 {cs : List Nat} (ho : EvD X o σ H (.str (S []))) (ha : EvD X e σ H (.list (cs.map fun c => .str (S [c])))) (hl : cs.length ≤ 100000) (hbase : attributeBase o "join" X.env (eval o X.env) = eval o X.env := by rfl)
    (hfew : ((backTo pos (starEach [e] X.env)).all (fun x => !x.1) && (backToKw pos (keywordEach [] X.env)).all (fun x => x.1.isSome)
      && decide (([e] : List Expr).length + ([] : List Keyword).length + (if ([] : List Keyword).isEmpty then 0 else 1) < 30)) = true := by rfl)
    (hline : (apos.endLine == pos.line) = true := by rfl) (hs : starEach [e] X.env = (false, eval e X.env) :: starEach [] X.env := by rfl) (hplain : (backTo pos (starEach [] X.env)).any (·.1) = false := by rfl) :
    EvD X (.Call (.Attribute o "join" apos) [e] [] pos) σ H (.str (S cs)) :=
  ev_bm (T := "str") PySem.F.plainAttrs_str PySem.F.slot_str_join PySem.F.type_str_join ho (ea_cons ha ea_nil hs) (fun _ x h => by cases h; rfl) (fun G H1 _ E t x vs hx hv Q q => by
    obtain ⟨u, rfl, hu⟩ := all1 hv
    cases hx
    cases hu with
    | @lst ad xs _ hq r =>
      have r' : DpAll X.K G xs ((cs.map fun c => S [c]).map PyData.str) := by rw [List.map_map]; exact r
      have e := dpall_str r'
      refine MtR.b mt_join ⟨_, _, cs.map fun c => S [c], rfl, rfl, .inl (by rw [← e]; exact E.l hq), ?_, ?_⟩
      · rw [S_len, List.length_nil, Nat.mul_zero, Nat.add_zero, List.map_map]
        have : ((cs.map ((fun x => x.length) ∘ fun c => S [c]))).sum ≤ cs.length := by
          clear ha hl hq r r' e hv q
          induction cs with
          | nil => simp
          | cons c r ih =>
            rw [List.map_cons, List.sum_cons, List.length_cons]
            have : ((fun x => x.length) ∘ fun c => S [c]) c = 1 := S_len [c]
            omega
        omega
      · rw [txt_join1]
        exact q _ G H1 (Fr.refl E t) (.str _)) hbase hfew hline hs hplain
/-- letters.find(sign) -/
theorem ev_findS {x y : Str} (ho : EvD X o σ H (.str x)) (ha : EvD X e σ H (.str y)) (hbase : attributeBase o "find" X.env (eval o X.env) = eval o X.env := by rfl)
    (hfew : ((backTo pos (starEach [e] X.env)).all (fun x => !x.1) && (backToKw pos (keywordEach [] X.env)).all (fun x => x.1.isSome)
      && decide (([e] : List Expr).length + ([] : List Keyword).length + (if ([] : List Keyword).isEmpty then 0 else 1) < 30)) = true := by rfl)
    (hline : (apos.endLine == pos.line) = true := by rfl) (hs : starEach [e] X.env = (false, eval e X.env) :: starEach [] X.env := by rfl) (hplain : (backTo pos (starEach [] X.env)).any (·.1) = false := by rfl) :
    EvD X (.Call (.Attribute o "find" apos) [e] [] pos) σ H (.int (Txt.find x y)) :=
  ev_bm (T := "str") PySem.F.plainAttrs_str PySem.F.slot_str_find PySem.F.type_str_find ho (ea_cons ha ea_nil hs) (fun _ x h => by cases h; rfl) (fun G H1 _ E t x vs hx hv Q q => by
    obtain ⟨u, rfl, hu⟩ := all1 hv
    cases hx
    cases hu
    exact MtR.b mt_find ⟨_, _, rfl, rfl, q _ G H1 (Fr.refl E t) (.int _)⟩) hbase hfew hline hs hplain
end
/-! ### what the laws draw -/
def cellAt (ns : List Int) (k : Nat) : Int := ns.getD k 0
def mixed (c k : Int) : Int := ((c * 48271 + k * 7919 + 1) % 1000003) * (((c * 48271 + k * 7919 + 1) % 1000003) + 2 * k + 5) % 999983
theorem mixed_lt (c k : Int) : 0 ≤ mixed c k ∧ mixed c k < 999983 := ⟨Int.emod_nonneg _ (by decide), Int.emod_lt_of_pos _ (by decide)⟩
def greats (n : Int) : List Int := [n, n ^ 2, n ^ 4, n ^ 9]
def numberF (n : Int) : Int := if n % 3 = 0 then (greats n).getD (n / 3 % 4).toNat 0 * (1 - 2 * (n / 3 / 4 % 2)) else if n % 3 = 1 then n / 3 % 2000 - 1000 else n / 3 % 7 - 3
def keyW (n : Int) : List Nat := (List.range (1 + n % 8).toNat).map fun (k : Nat) => abcAt ((n / ((k : Int) + 1) + 3 * (k : Int)) % 26)
def keyA (n : Int) : Nat := (n / 8 % (1 + n % 8)).toNat
def keyO (n : Int) : Nat := abcAt ((Txt.find abc (S [(keyW n).getD (keyA n) 97]) + 1 + n / 64 % 25) % 26)
def keysF (n : Int) : List Str := [S (keyW n), S ((keyW n).take (keyA n) ++ [keyO n] ++ (keyW n).drop (keyA n + 1)), S ((keyW n ++ [keyO n]).take 8), S [97]]
def keyS (z : Str) : Bool := decide (1 ≤ (z.length : Int)) && decide ((z.length : Int) ≤ 8) && z.cps.toList.all letter
theorem keyS_S {l : List Nat} (h1 : 1 ≤ l.length) (h8 : l.length ≤ 8) (ha : ∀ c ∈ l, letter c = true) : keyS (S l) = true := by
  unfold keyS
  rw [S_len, S_list, decide_eq_true (by omega), decide_eq_true (by omega)]
  exact List.all_eq_true.mpr ha
theorem keyW_len (n : Int) : (keyW n).length = (1 + n % 8).toNat := by simp [keyW]
theorem keyW_let (n : Int) : ∀ c ∈ keyW n, letter c = true := fun c h => by
  obtain ⟨k, _, rfl⟩ := List.mem_map.mp h
  exact (abcAt_letter _).1
theorem keyA_lt (n : Int) : keyA n < (keyW n).length := by
  rw [keyW_len]
  unfold keyA
  have h := Int.emod_nonneg n (show (8 : Int) ≠ 0 by decide)
  have h2 := Int.emod_nonneg (n / 8) (show (1 + n % 8 : Int) ≠ 0 by omega)
  have h3 := Int.emod_lt_of_pos (n / 8) (show (0 : Int) < 1 + n % 8 by omega)
  omega
theorem keysF_ok (n : Int) : ∀ z ∈ keysF n, keyS z = true := by
  have l1 := keyW_len n
  have h0 := Int.emod_nonneg n (show (8 : Int) ≠ 0 by decide)
  have h1 := Int.emod_lt_of_pos n (show (0 : Int) < 8 by decide)
  have ha := keyA_lt n
  have hl := keyW_let n
  have ho : letter (keyO n) = true := (abcAt_letter _).1
  intro z hz
  unfold keysF at hz
  simp only [List.mem_cons, List.not_mem_nil, or_false] at hz
  rcases hz with rfl | rfl | rfl | rfl
  · exact keyS_S (by omega) (by omega) hl
  · refine keyS_S ?_ ?_ fun c hc => ?_
    · simp only [List.length_append, List.length_cons, List.length_nil]; omega
    · simp only [List.length_append, List.length_cons, List.length_nil, List.length_take, List.length_drop]; omega
    · rcases List.mem_append.mp hc with hc | hc
      · rcases List.mem_append.mp hc with hc | hc
        · exact hl c (List.mem_of_mem_take hc)
        · rw [List.mem_singleton.mp hc]; exact ho
      · exact hl c (List.mem_of_mem_drop hc)
  · refine keyS_S ?_ ?_ fun c hc => ?_
    · simp only [List.length_take, List.length_append, List.length_cons, List.length_nil]; omega
    · simp only [List.length_take]; omega
    · rcases List.mem_append.mp (List.mem_of_mem_take hc) with hc | hc
      · exact hl c hc
      · rw [List.mem_singleton.mp hc]; exact ho
  · decide +kernel
end C
namespace C
open PySem L2
/-! ### deeds -/
structure Deed where
  a : Int
  t : Int
  w : Str
  k : Str
  v : Int
abbrev Deed.d (x : Deed) : PyData := .tuple [.int x.a, .int x.t, .str x.w, .str x.k, .int x.v]
def wordsL : List Str := ["put", "add", "once", "away"]
def askerF (n : Int) : Nat := if n / 3 % 5 = 1 then (n / 15 % 10).toNat else (n % 3).toNat
def wordF (n : Int) : Str := wordsL.getD (n / 150 % 4).toNat (S [])
def valueF (n : Int) : Int := if wordF n = "away" then 0 else numberF (n / 600)
def turnUp (n : Int) (ts : List Int) : List Int := ts.set (askerF n) (ts.getD (askerF n) 0 + 1)
def deedOf (n : Int) (ks : List Str) (ts : List Int) : Deed := ⟨askerF n, ts.getD (askerF n) 0 + 1, wordF n, ks.getD (n / 7 % 4).toNat (S []), valueF n⟩
theorem askerF_lt (n : Int) : askerF n < 10 := by
  unfold askerF
  split <;> omega
theorem atI_map {α β : Type} {f : α → β} {xs : List α} {i : Int} (h0 : 0 ≤ i) (h : i < xs.length) (y : α) : atI (xs.map f) i = some (f (xs.getD i.toNat y)) := by
  obtain ⟨m, rfl⟩ := Int.eq_ofNat_of_zero_le h0
  have hl : m < xs.length := by omega
  refine atI_nat ?_
  rw [List.getElem?_map, List.getElem?_eq_getElem hl, Int.toNat_natCast, List.getD_eq_getElem?_getD, List.getElem?_eq_getElem hl]
  rfl
/-- a heap without what stands at t -/
def dl (H : Hp) (t : Addr) : Hp := fun b => if b = t then none else H b
theorem dl_ne {H : Hp} {t b : Addr} (h : b ≠ t) : dl H t b = H b := by unfold dl; rw [if_neg h]
theorem dl_same {H : Hp} {t : Addr} : dl H t t = none := by unfold dl; rw [if_pos rfl]
theorem dl_ext {H : Hp} {t : Addr} : Ext (dl H t) H where
  keep := fun a o h _ => by
    by_cases z : a = t
    · subst z; rw [dl_same] at h; cases h
    · rw [dl_ne z] at h; exact h
  tb := fun a o h => by
    by_cases z : a = t
    · subst z; rw [dl_same] at h; cases h
    · rw [dl_ne z] at h; exact ⟨o, h⟩
/-- as Fr, but what stands at t (which no base knows) may have changed -/
structure FrM (K : PySem.W.Frag) (t : Addr) (H H1 G H2 : Hp) : Prop where
  g : Ext H G
  g2 : Ext G H2
  h : Ext (dl H1 t) H2
  off : ∀ b o, H b = none → H1 b = some o → G b = none
  tok : TabsOk K H2
theorem Fr.m {K : PySem.W.Frag} {t : Addr} {H H1 G H2 : Hp} (f : Fr K H H1 G H2) : FrM K t H H1 G H2 := ⟨f.g, f.g2, dl_ext.trans f.h, f.off, f.tok⟩
theorem FrM.step {K : PySem.W.Frag} {t : Addr} {H H1 G H2 G' H3 : Hp} (a : FrM K t H H1 G H2) (b : Fr K G H2 G' H3) (ht : ∃ o, H2 t = some o) : FrM K t H H1 G' H3 :=
  ⟨a.g.trans b.g, b.g2, a.h.trans b.h, fun x o n q => by
    by_cases z : x = t
    · obtain ⟨o', ht⟩ := ht
      subst z
      exact b.off x o' (a.off x o n q) ht
    · obtain ⟨o', r⟩ := a.h.dom x o (by rw [dl_ne z]; exact q)
      exact b.off x o' (a.off x o n q) r, b.tok⟩
theorem FrM.put {K : PySem.W.Frag} {t : Addr} {H H1 G H2 : Hp} {o : HO} (a : FrM K t H H1 G H2) (ht : G t = none) (n : isTbl o = false) : FrM K t H H1 G (upd H2 t o) :=
  ⟨a.g, a.g2.mut ht, a.h.mut dl_same, a.off, a.tok.upd n⟩
section
variable {X : Cx} {σ : L2.St} {H H' Hb : Hp} {e o i : Expr} {sts : List Stmt} {v : V} {pos pos' : Pos} {D : Ends}
/-- o[i] = e, o a tracked list -/
theorem bb_setL {t : Addr} {xs : List V} {j : Nat} (he : EvV X e σ Hb v) (ho : EvV X o σ Hb (.ref t)) (hi : EvD X i σ Hb (.int (j : Int))) (B : Ext Hb H) (tk : TabsOk X.K H) (hl : H t = some (.lst xs)) (hj : j < xs.length)
    (q : ∀ H2, Ext H H2 → TabsOk X.K H2 → bB X sts D σ (upd H2 t (.lst (xs.set j v))))
    (ha : ∀ v, assign (.Subscript o i pos') X.env v = (do
      let ov ← holding [v] (eval o X.env)
      let iv ← holding [v, ov] (eval i X.env)
      standAt pos'
      holding [v, ov, iv] (setItem ov iv v)
      release [v, ov, iv] []) := by intro _; rfl)
    (hs : swapsWithSole [.Subscript o i pos'] e pos.line X.env = pure false := by rfl) (hw : swappedStores [.Subscript o i pos'] e X.env = pure none := by rfl) (h1 : (assignEach [.Subscript o i pos'] X.env).map (·.2) = [assign (.Subscript o i pos') X.env] := by rfl) :
    bB X (.Assign [.Subscript o i pos'] e pos :: sts) D σ H := bb_cons (PS.b (ps_asg pe_b (pg_sub pe_b pe_b set_list ha) hs hw h1) (he H B tk _ fun u G H2 f e1 => by
      subst e1
      exact ho.mono f.g H2 f.g2 f.tok _ fun u2 G2 H3 f2 e2 => by
        subst e2
        exact hi.mono (f.g.trans f2.g) H3 f2.g2 f2.tok _ fun u3 G3 H4 f3 r => by
          cases r
          have e4 := (f.h.trans f2.h).trans f3.h
          exact ⟨t, xs, (j : Int), j, rfl, rfl, e4.keep _ _ hl rfl, Evl.ixN_nat hj, q H4 e4 f3.tok⟩))
theorem dpall_bool {K : PySem.W.Frag} {H : Hp} : ∀ {ys : List Bool} {vs : List V}, DpAll K H vs (ys.map PyData.bool) → vs = ys.map V.bl
  | [], _, h => by cases h; rfl
  | y :: ys, _, h => by
    obtain ⟨v, us, rfl, h1, h2⟩ := allc h
    rw [dp_bl h1, dpall_bool h2]; rfl
theorem ev_allL {bs : List Bool} {p : Pos} {a : Expr} (ha : EvD X a σ H (.list (bs.map PyData.bool))) (hm : X.mg "all" = none) (hc : X.calm = true := by rfl) (hg : Gl X "all" := by rfl) (he : starEach [a] X.env = (false, eval a X.env) :: starEach [] X.env := by rfl) :
    EvD X (.Call (.Name "all" p) [a] [] pos) σ H (.bool (bs.all id)) := ev_callB (ea_cons ha ea_nil he) (fun G H1 _ E t vs h Q q => by
      obtain ⟨u, rfl, hu⟩ := all1 h
      cases hu with
      | @lst ad xs _ hq r =>
        have e := dpall_bool r
        subst e
        exact CallR.b (cr_all hc) ⟨ad, bs, rfl, E.l hq, q _ G H1 (Fr.refl E t) (.bl _)⟩) hg hm (by decide +kernel) (by decide) (by decide) he
end
theorem Ext.dl_r {G G2 : Hp} {t : Addr} (e : Ext G G2) (h : G t = none) : Ext G (dl G2 t) where
  keep := fun a o ha n => by rw [dl_ne (ne_of_none ha h)]; exact e.keep a o ha n
  tb := fun a o ha => by rw [dl_ne (ne_of_none ha h)]; exact e.tb a o ha
/-- what was read with the list at t known is known without it -/
theorem FrM.out {K : PySem.W.Frag} {t : Addr} {H H1 G H5 G2 H6 : Hp} {xs : List V} (a : FrM K t H H1 G H5) (hG : G t = none) (hl : H5 t = some (.lst xs)) (f : Fr K (upd G t (.lst xs)) H5 G2 H6) : FrM K t H H1 (dl G2 t) H6 ∧ H6 t = some (.lst xs) ∧ G2 t = some (.lst xs) :=
  ⟨⟨a.g.trans (((Ext.new hG).trans f.g).dl_r hG), dl_ext.trans f.g2, a.h.trans f.h, fun b o n q => by
    by_cases z : b = t
    · subst z; exact dl_same
    · rw [dl_ne z]
      obtain ⟨o', r⟩ := a.h.dom b o (by rw [dl_ne z]; exact q)
      exact f.off b o' (by rw [upd_ne z]; exact a.off b o n q) r, f.tok⟩, f.h.keep _ _ hl rfl, f.g.keep _ _ upd_same rfl⟩
theorem dp_tup5 {K : PySem.W.Frag} {G G' : Hp} {v : V} {a b e : Int} {c d : Str} (h : Dp K G v (.tuple [.int a, .int b, .str c, .str d, .int e])) (ht : ∀ p xs, SqT K G p xs → SqT K G' p xs) : Dp K G' v (.tuple [.int a, .int b, .str c, .str d, .int e]) := by
  obtain ⟨p, xs, rfl, hs, r⟩ := dp_tup h
  obtain ⟨u1, u2, u3, u4, u5, rfl, q1, q2, q3, q4, q5⟩ := all5 r
  cases dp_int q1; cases dp_int q2; cases dp_str q3; cases dp_str q4; cases dp_int q5
  exact .tup (ht _ _ hs) (.cons (.int _) (.cons (.int _) (.cons (.str _) (.cons (.str _) (.cons (.int _) .nil)))))
theorem sqT_dl {K : PySem.W.Frag} {G : Hp} {t : Addr} {xs : List V} (h : G t = some (.lst xs)) : ∀ p ys, SqT K G p ys → SqT K (dl G t) p ys := fun p ys q => by
  rcases q with (q | ⟨o, q⟩) | q
  · exact .inl (.inl (by rw [dl_ne (ne_of q h (fun z => nomatch z))]; exact q))
  · exact .inl (.inr ⟨o, by rw [dl_ne (ne_of q h (fun z => nomatch z))]; exact q⟩)
  · exact .inr q
end C
namespace C
open PySem L2
def turnsAt (cells : List Int) : Nat → List Int
  | 0 => List.replicate 10 0
  | j + 1 => turnUp (mixed (cells.getD j 0) j) (turnsAt cells j)
def deedAt (cells : List Int) (ks : List Str) (j : Nat) : Deed := deedOf (mixed (cells.getD j 0) j) ks (turnsAt cells j)
def deedsF (cells : List Int) (ks : List Str) : List Deed := (List.range cells.length).map (deedAt cells ks)
theorem turnsAt_len (cells : List Int) : ∀ j, (turnsAt cells j).length = 10
  | 0 => by simp [turnsAt]
  | j + 1 => by unfold turnsAt turnUp; rw [List.length_set]; exact turnsAt_len cells j
/-- what was done while t was one's own -/
theorem FrM.own {K : PySem.W.Frag} {t : Addr} {G H H1 G' H2 : Hp} (f : FrM K t G H1 G' H2) (e : Ext H H1) (h : H t = none) : Fr K G H G' H2 :=
  ⟨f.g, f.g2, ((e.dl_r h).trans f.h), fun b o n q => by obtain ⟨o', r⟩ := e.dom b o q; exact f.off b o' n r, f.tok⟩
section
variable {X : Cx} {σ : L2.St} {H : Hp} {elt iter a : Expr} {es : List Expr} {ds : List PyData} {x : Str} {px pos p1 p2 : Pos} {scope : Scope} {m : Expr} {N : Int}
/-- a new list of one's own, by its place -/
def EvF (X : Cx) (e : Expr) (σ : L2.St) (H : Hp) (ds : List PyData) : Prop := Ev X e σ H fun v G => ∃ a xs, v = .ref a ∧ G a = some (.lst xs) ∧ DpAll X.K G xs ds ∧ H a = none
theorem ef_lst (h : EvAD X es σ H ds) (hl : ds.length ≤ 100000) : EvF X (.List es pos) σ H ds := fun H1 E t Q q =>
  PE.b (pe_lst pa_b) (h H1 E t _ fun vs G H2 f r => ⟨line_of (by rw [all_len r]; exact hl), fun p hp => q _ _ _ (f.new hp rfl) ⟨p, vs, rfl, upd_same, (Ext.new (f.g2.fresh hp)).dps r, f.g.fresh (f.g2.fresh hp)⟩⟩)
theorem all_rep {K : PySem.W.Frag} {G : Hp} {xs : List V} (r : DpAll K G xs ds) : ∀ k, DpAll K G (List.replicate k xs).flatten (List.replicate k ds).flatten
  | 0 => .nil
  | k + 1 => by
    rw [List.replicate_succ, List.replicate_succ, List.flatten_cons, List.flatten_cons]
    exact all_app r (all_rep r k)
/-- [e, ..] * k -/
theorem ef_rep {k : Nat} {b : Expr} (h : EvAD X es σ H ds) (hb : EvD X b σ H (.int k)) (hl : ds.length ≤ 1000) (hk : k ≤ 1000) : EvF X (.BinOp (.List es p1) .Mult b pos) σ H (List.replicate k ds).flatten := fun H1 E t Q q =>
  PE.b (pe_op or_b pe_b pe_b) ((ek_lst h (by omega)) H1 E t _ fun v G H2 f ⟨ad, xs, e1, h1, r1⟩ => hb.mono f.g H2 f.g2 f.tok _ fun y G2 H3 f2 r2 => by
    subst e1
    cases r2
    refine OpR.b op_rep ⟨ad, (k : Int), xs, rfl, rfl, f2.h.keep _ _ (f.g2.keep _ _ h1 rfl) rfl, by omega, by omega, ?_, fun p hp => ?_⟩
    · rw [Int.toNat_natCast, all_len r1]
      have : ds.length * k ≤ 1000 * 1000 := Nat.mul_le_mul hl hk
      exact Nat.le_trans this (by decide)
    · have fr := f2.g2.fresh hp
      refine q _ _ _ ((f.trans f2).new hp rfl) ⟨p, _, rfl, upd_same, ?_, (f.trans f2).g.fresh fr⟩
      rw [Int.toNat_natCast]
      exact all_rep ((Ext.new fr).dps (f2.g.dps r1)) k)
/-- [elt for x in range(m)] whose element changes the list at t -/
theorem bE_lcM {t : Addr} (i : Nat) (f : Nat → PyData) (ts : Nat → List V) (h : EvD X m σ H (.int N)) (hsz : 0 ≤ N ∧ N ≤ 40000) (hN : X.N.Nodup) (ht : H t = none)
    (he : ∀ (j : Nat) s H0 C cl fp G H', (j : Int) < N → Ext H G → Ext G H' → TabsOk X.K H' → G t = none → H' t = some (.lst (ts j)) → ∀ Q : VK, (∀ v G2 H2, FrM X.K t G H' G2 H2 → G2 t = none → H2 t = some (.lst (ts (j + 1))) → Dp X.K G2 v (f j) → Q v H2) →
      bE (bk X scope s H0 C cl fp) elt ((wipe σ [i]).set i (some (.int (j : Int)))) H' Q)
    (ok : BlkOk X.N X.env.scope scope [(x, i)]) (hm : X.mg "range" = none) (hw : ∀ y, wipe ((wipe σ [i]).set i (some y)) [i] = wipe σ [i])
    (hx : ∀ s H0 C cl fp, PG (bk X scope s H0 C cl fp) (.Name x px) (gName i)) {H1 : Hp} (E : Ext H H1) (tk : TabsOk X.K H1) (h1 : H1 t = some (.lst (ts 0))) {Q : VK}
    (q : ∀ D vs G' H2, FrM X.K t H H1 G' H2 → G' t = none → H2 t = some (.lst (ts N.toNat)) → G' D = some (.lst vs) → DpAll X.K G' vs ((List.range N.toNat).map f) → Q (.ref D) H2)
    (hg : Gl X "range" := by rfl) (hc : X.calm = true := by rfl) (hst : starEach [m] X.env = [(false, eval m X.env)] := by rfl) (hfs : ∀ y, foldedSetIterable (.Call (.Name "range" p1) [m] [] p2) X.env y = pure y := by intro _; rfl) :
    bE X (.ListComp elt [⟨.Name x px, .Call (.Name "range" p1) [m] [] p2, [], 0⟩] scope pos) σ H1 Q :=
  PE.b (pe_lc (own := [(x, i)]) (te := bLc X scope elt) hc hN (pi_range1 hg hm (pa_cons pe_b pa_nil hst) hst) ok hx (fun _ _ _ _ _ => pts_nil) (fun s H0 C cl fp => ⟨fun pins s' _ _ _ I h => h s H0 C cl fp pins s' I⟩) hfs)
    (h H1 E tk _ fun v G0 H2 f0 r => by
      cases r
      refine ⟨N, rfl, by omega, by omega, fun D hD => ?_⟩
      have hD1 := f0.h.fresh hD
      have hDG := f0.g2.fresh hD
      have gt0 := f0.off t _ ht h1
      have h2t := f0.h.keep _ _ h1 rfl
      have hDt : D ≠ t := fun z => by rw [z, h2t] at hD; cases hD
      have put : ∀ {G H' : Hp} {vs : List V}, FrM X.K t H H1 G H' → G D = none → FrM X.K t H H1 G (upd H' D (.lst vs)) := fun F gD =>
        ⟨F.g, F.g2.mut gD, F.h.mut (by rw [dl_ne hDt]; exact hD1), F.off, F.tok.upd rfl⟩
      refine lc_range (lo := 0) (n := N.toNat) (fun j H' => ∃ G vs, FrM X.K t H H1 G H' ∧ G t = none ∧ H' t = some (.lst (ts j)) ∧ G D = none ∧ H' D = some (.lst vs) ∧ DpAll X.K G vs ((List.range j).map f)) ⟨G0, [], put f0.m hDG, gt0, by rw [upd_ne (Ne.symm hDt)]; exact h2t, hDG, upd_same, .nil⟩ (fun j H' hj p => ?_) (fun H' p => ?_)
      · obtain ⟨G, vs, F, gt, hjt, gD, hDl, r⟩ := p
        have e0 : (0 : Int) + (j : Int) = (j : Int) := Int.zero_add _
        show wipe ((wipe σ [i]).set i (some (.int ((0 : Int) + (j : Int))))) [i] = wipe σ [i] ∧ _
        rw [e0]
        refine ⟨hw _, fun s H0 C cl fp => ?_⟩
        refine he j s H0 C cl fp G H' (by omega) F.g F.g2 F.tok gt hjt _ fun v G2 H3 f2 gt2 h3t r2 => ?_
        have gD2 := f2.off D _ gD hDl
        have hD3 : H3 D = some (.lst vs) := f2.h.keep _ _ (by rw [dl_ne hDt]; exact hDl) rfl
        refine ⟨vs, hD3, ?_, G2, vs ++ [v], put ⟨F.g.trans f2.g, f2.g2, ?_, fun b o n q => ?_, f2.tok⟩ gD2, gt2, by rw [upd_ne (Ne.symm hDt)]; exact h3t, gD2, upd_same, ?_⟩
        · have := all_len r
          rw [List.length_map, List.length_range] at this
          exact Nat.lt_of_le_of_lt (by omega : vs.length ≤ 40000) (by decide)
        · exact (F.h.dl_r dl_same).trans f2.h
        · by_cases z : b = t
          · subst z; exact gt2
          · obtain ⟨o', r'⟩ := F.h.dom b o (by rw [dl_ne z]; exact q)
            exact f2.off b o' (F.off b o n q) r'
        · rw [List.range_succ, List.map_append]
          exact all_app (f2.g.dps r) (.cons r2 .nil)
      · obtain ⟨G, vs, F, gt, hjt, gD, hDl, r⟩ := p
        exact q D vs (upd G D (.lst vs)) H' ⟨F.g.trans (Ext.new gD), F.g2.add hDl rfl, F.h, fun b u n z => by rw [upd_ne (ne_of_none z hD1)]; exact F.off b u n z, F.tok⟩ (by rw [upd_ne (Ne.symm hDt)]; exact gt) hjt upd_same ((Ext.new gD).dps r))
end
end C
namespace C
open PySem L2
section
variable {X : Cx} {σ : L2.St} {H : Hp} {e : Expr} {es : List Expr} {sts : List Stmt} {D : Ends} {pos : Pos}
theorem dl_mono {A B : Hp} {t : Addr} (e : Ext A B) : Ext (dl A t) (dl B t) where
  keep := fun a o h n => by
    by_cases z : a = t
    · subst z; rw [dl_same] at h; cases h
    · rw [dl_ne z] at h ⊢; exact e.keep a o h n
  tb := fun a o h => by
    by_cases z : a = t
    · subst z; rw [dl_same] at h; cases h
    · rw [dl_ne z] at h ⊢; exact e.tb a o h
theorem FrM.pre {K : PySem.W.Frag} {t : Addr} {G A B G' H2 : Hp} (f : FrM K t G B G' H2) (e : Ext A B) : FrM K t G A G' H2 :=
  ⟨f.g, f.g2, (dl_mono e).trans f.h, fun b o n z => by obtain ⟨o', z'⟩ := e.dom b o z; exact f.off b o' n z', f.tok⟩
/-- arguments by their values -/
def EvAV (X : Cx) (es : List Expr) (σ : L2.St) (H : Hp) (vs : List V) : Prop := EvA X es σ H fun us _ => us = vs
theorem eav_nil : EvAV X [] σ H [] := fun H1 E t Q q => PA.b pa_nil (q [] H H1 (Fr.refl E t) rfl)
theorem eav_cons {v : V} {vs : List V} (h : EvV X e σ H v) (h2 : EvAV X es σ H vs) (hs : starEach (e :: es) X.env = (false, eval e X.env) :: starEach es X.env := by rfl) : EvAV X (e :: es) σ H (v :: vs) := fun H1 E t Q q =>
  PA.b (pa_cons pe_b pa_b hs) (h H1 E t _ fun v G H2 f r => h2 H2 (f.g.trans f.g2) f.tok _ fun vs G2 H3 f2 s => by
    subst r
    subst s
    exact q _ G2 H3 ⟨f2.g, f2.g2, f.h.trans f2.h, fun b o n z => by
      obtain ⟨o', z'⟩ := f.h.dom b o z
      exact f2.off b o' n z', f2.tok⟩ rfl)
theorem bb_retE {H1 : Hp} (h : bE X e σ H1 fun v H2 => D.rt v H2) : bB X (.Return (some e) pos :: sts) D σ H1 := bb_cons (PS.b (ps_ret pe_b) h)
/-- a def of the program called, by what it is given -/
theorem bE_call {p : Pos} {H1 : Hp} {P : List V → Hp → Prop} {Q : VK} {sp : Sp} {CX : CXT} {k : Nat} {f : Addr} {fd : FuncData} {ps : List Str} {E : XK} {nm : Str} (F : FnOk X.prog X.w X.K X.mg X.base CX k f fd ps sp) (hr : Room k X.A) (hg : Gl X nm) (hm : X.mg nm = some (.ref f)) (hk : PySem.W.keepIn X.K (.ref f) = true) (hb : Binds X.K fd ps [])
    (hx : Passes CX X E) (ha : EvA X (e :: es) σ H P) (E1 : Ext H H1) (t : TabsOk X.K H1) (q : ∀ vs G H2, Fr X.K H H1 G H2 → P vs G → sp vs H2 Q E) (hdb : (nm == ("__debug__" : Str)) = false := by decide) (he : starEach (e :: es) X.env = (false, eval e X.env) :: starEach es X.env := by rfl) (hpl : (backTo pos (starEach es X.env)).any (·.1) = false := by rfl) :
    bE X (.Call (.Name nm p) (e :: es) [] pos) σ H1 Q :=
  PE.b (pe_call F hr hg hm hk hb .nil hx pa_b hdb he hpl) (ha H1 E1 t _ fun vs G H2 f r => by
    rw [List.append_nil]
    exact q vs G H2 f r)
end
end C
namespace C
open PySem L2
section
variable {X : Cx} {σ : L2.St} {H : Hp} {a b : Expr} {pos : Pos} {k l : Bool}
theorem et_neB (ha : EvD X a σ H (.bool k)) (hb : EvD X b σ H (.bool l)) (hm : behindInMarks .NotEq b = false := by rfl) : EvT X (.Compare a [.NotEq] [b] pos) σ H (!(k == l)) := et_cmp ha hb opd_neB hm
end
/-- data of depth n at the most, without dicts -/
inductive Alk : Nat → PyData → Prop
  | int {n : Nat} (i : Int) : Alk n (.int i)
  | bl {n : Nat} (i : Bool) : Alk n (.bool i)
  | non {n : Nat} : Alk n .none
  | str {n : Nat} (i : Str) : Alk n (.str i)
  | lst {n : Nat} {ds : List PyData} (h : ∀ d ∈ ds, Alk n d) (hl : ds.length ≤ 40000) : Alk (n + 1) (.list ds)
  | tup {n : Nat} {ds : List PyData} (h : ∀ d ∈ ds, Alk n d) (hl : ds.length ≤ 40000) : Alk (n + 1) (.tuple ds)
def Ralk (n : Nat) (ds : List PyData) (d : PyData) : Prop := ∃ x, ds = [x, x] ∧ Alk n x ∧ d = .bool true
theorem all_true (n : Nat) : (List.range n).map (fun _ => PyData.bool true) = ((List.range n).map fun _ => true).map PyData.bool := by rw [List.map_map]; rfl
theorem all_true2 (n : Nat) : ((List.range n).map fun _ => true).all id = true := List.all_eq_true.mpr fun x h => by
  obtain ⟨_, _, rfl⟩ := List.mem_map.mp h
  rfl
theorem atI_mem {ds : List PyData} {j : Nat} (h : j < ds.length) : ∃ d, atI ds (j : Int) = some d ∧ d ∈ ds := ⟨ds[j], atI_nat (List.getElem?_eq_getElem h), List.getElem_mem h⟩
end C

namespace C
open PySem L2
/-! ### stores: texts to whole numbers, in the order of their keys' coming -/
abbrev Sto := List (Str × Int)
def kvS (s : Sto) : List (Key × V) := s.map fun p => (Sum.inr p.1, V.int p.2)
def valS (s : Sto) (k : Str) : Option Int := (s.find? fun p => decide (p.1 = k)).map (·.2)
def putS (s : Sto) (k : Str) (v : Int) : Sto := if (valS s k).isSome = true then s.map (fun p => if p.1 = k then (p.1, v) else p) else s ++ [(k, v)]
def dropS (s : Sto) (k : Str) : Sto := s.filter fun p => decide (p.1 ≠ k)
abbrev oD : Option Int → PyData
  | none => .none
  | some i => .int i
abbrev oV : Option Int → V
  | none => .non
  | some i => .int i
theorem dp_oV {K : PySem.W.Frag} {H : Hp} (o : Option Int) : Dp K H (oV o) (oD o) := match o with
  | none => .non
  | some i => .int i
theorem oV_of {K : PySem.W.Frag} {H : Hp} {v : V} {o : Option Int} (h : Dp K H v (oD o)) : v = oV o := by
  cases o with
  | none => cases h; rfl
  | some i => cases h; rfl
theorem oV_getD (o : Option Int) : (o.map V.int).getD .non = oV o := by cases o <;> rfl
theorem oV_getI (o : Option Int) (i : Int) : (o.map V.int).getD (.int i) = .int (o.getD i) := by cases o <;> rfl
theorem valS_pos {p : Str × Int} {r : Sto} {k : Str} (e : p.1 = k) : valS (p :: r) k = some p.2 := by simp [valS, List.find?_cons, e]
theorem valS_neg {p : Str × Int} {r : Sto} {k : Str} (e : ¬ p.1 = k) : valS (p :: r) k = valS r k := by simp [valS, List.find?_cons, e]
theorem valV_kvS (k : Str) : ∀ s : Sto, valV (kvS s) (Sum.inr k) = (valS s k).map V.int
  | [] => rfl
  | p :: r => by
    show valV ((Sum.inr p.1, V.int p.2) :: kvS r) (Sum.inr k) = _
    by_cases e : p.1 = k
    · rw [valV_pos (p := (Sum.inr p.1, V.int p.2)) (by rw [e]), valS_pos e]; rfl
    · rw [valV_neg (p := (Sum.inr p.1, V.int p.2)) (fun z => e (Sum.inr.inj z)), valS_neg e, valV_kvS k r]
theorem putK_kvS (s : Sto) (k : Str) (v : Int) : putK (kvS s) (Sum.inr k) (V.int v) = kvS (putS s k v) := by
  unfold putK putS
  rw [valV_any, valV_kvS, Option.isSome_map]
  by_cases h : (valS s k).isSome = true
  · rw [if_pos h, if_pos h]
    unfold kvS
    rw [List.map_map, List.map_map]
    refine List.map_congr_left fun p _ => ?_
    show (if (Sum.inr p.1 : Key) = Sum.inr k then ((Sum.inr p.1 : Key), V.int v) else (Sum.inr p.1, V.int p.2)) = _
    by_cases e : p.1 = k
    · rw [if_pos (by rw [e])]; show _ = (fun p => ((Sum.inr p.1 : Key), V.int p.2)) (if p.1 = k then (p.1, v) else p); rw [if_pos e]
    · rw [if_neg (fun z => e (Sum.inr.inj z))]; show _ = (fun p => ((Sum.inr p.1 : Key), V.int p.2)) (if p.1 = k then (p.1, v) else p); rw [if_neg e]
  · rw [if_neg h, if_neg h]
    unfold kvS
    rw [List.map_append]
    rfl
theorem dropK_kvS (s : Sto) (k : Str) : dropK (kvS s) (Sum.inr k) = kvS (dropS s k) := by
  induction s with
  | nil => rfl
  | cons p r ih =>
    show dropK ((Sum.inr p.1, V.int p.2) :: kvS r) (Sum.inr k) = kvS (dropS (p :: r) k)
    unfold dropK dropS at *
    by_cases e : p.1 = k
    · rw [List.filter_cons, if_neg (by simp [e]), List.filter_cons, if_neg (by simp [e])]; exact ih
    · rw [List.filter_cons, if_pos (by simp [e]), List.filter_cons, if_pos (by simp [e]), ih]; rfl
theorem dropS_no {s : Sto} {k : Str} (h : valS s k = none) : dropS s k = s := by
  induction s with
  | nil => rfl
  | cons p r ih =>
    by_cases e : p.1 = k
    · rw [valS_pos e] at h; cases h
    · rw [valS_neg e] at h
      unfold dropS at *
      rw [List.filter_cons, if_pos (by simp [e]), ih h]
theorem putS_len (s : Sto) (k : Str) (v : Int) : (putS s k v).length ≤ s.length + 1 := by
  unfold putS
  split
  · rw [List.length_map]; omega
  · rw [List.length_append]; show _ + 1 ≤ _; omega
theorem dropS_len (s : Sto) (k : Str) : (dropS s k).length ≤ s.length := List.length_filter_le _ _
theorem valS_put (s : Sto) (k : Str) (v : Int) : valS (putS s k v) k = some v := by
  have h := valV_kvS k (putS s k v)
  rw [← putK_kvS, valV_put, if_pos rfl] at h
  cases e : valS (putS s k v) k with
  | none => rw [e] at h; cases h
  | some i => rw [e] at h; injection h with h; injection h with h; rw [h]
theorem valS_mem {s : Sto} {k : Str} (h : k ∈ s.map (·.1)) : ∃ i, valS s k = some i := by
  induction s with
  | nil => cases h
  | cons p r ih =>
    by_cases e : p.1 = k
    · exact ⟨_, valS_pos e⟩
    · rw [List.map_cons] at h
      rcases List.mem_cons.mp h with q | q
      · exact absurd q.symm e
      · rw [valS_neg e]; exact ih q
/-- one deed done -/
def stepS (s : Sto) (x : Deed) : Sto × Option Int :=
  if x.w = "put" then (putS s x.k x.v, valS s x.k)
  else if x.w = "away" then (dropS s x.k, valS s x.k)
  else if x.w = "add" then (putS s x.k ((valS s x.k).getD 0 + x.v), some ((valS s x.k).getD 0 + x.v))
  else match valS s x.k with
    | none => (putS s x.k x.v, some x.v)
    | some i => (s, some i)
theorem stepS_len (s : Sto) (x : Deed) : (stepS s x).1.length ≤ s.length + 1 := by
  unfold stepS
  split
  · exact putS_len ..
  split
  · exact Nat.le_succ_of_le (dropS_len ..)
  split
  · exact putS_len ..
  split
  · exact putS_len ..
  · exact Nat.le_succ _
def deed0 : Deed := ⟨0, 0, S [], S [], 0⟩
def stoAt (xs : List Deed) : Nat → Sto
  | 0 => []
  | j + 1 => (stepS (stoAt xs j) (xs.getD j deed0)).1
def ansAt (xs : List Deed) (j : Nat) : Option Int := (stepS (stoAt xs j) (xs.getD j deed0)).2
def ansF (xs : List Deed) (n : Nat) : List (Option Int) := (List.range n).map (ansAt xs)
theorem ansF_succ (xs : List Deed) (n : Nat) : ansF xs (n + 1) = ansF xs n ++ [ansAt xs n] := by unfold ansF; rw [List.range_succ, List.map_append]; rfl
theorem ansF_len (xs : List Deed) (n : Nat) : (ansF xs n).length = n := by simp [ansF]
theorem stoAt_len (xs : List Deed) : ∀ j, (stoAt xs j).length ≤ j
  | 0 => Nat.le_refl _
  | j + 1 => Nat.le_trans (stepS_len _ _) (Nat.succ_le_succ (stoAt_len xs j))
/-! sorted texts -/
open PyProof.Rows PySem.Spec in
theorem risingS_pw : ∀ (l : List Str) (p : Str), risingS p l = true → (p :: l).Pairwise (fun a b => ltCps b.cps.toList a.cps.toList = false)
  | [], p, _ => List.pairwise_singleton _ _
  | x :: r, p, h => by
    have h' : (!ltCps x.cps.toList p.cps.toList && risingS x r) = true := h
    rw [Bool.and_eq_true] at h'
    have ih := risingS_pw r x h'.2
    have h1 : ltCps x.cps.toList p.cps.toList = false := by simpa using h'.1
    refine List.pairwise_cons.mpr ⟨fun y hy => ?_, ih⟩
    rcases List.mem_cons.mp hy with rfl | hy
    · exact h1
    · have h2 := (List.pairwise_cons.mp ih).1 y hy
      rw [ltCps_eq, decide_eq_false_iff_not] at h1 h2 ⊢
      rw [List.not_lt] at h1 h2 ⊢
      exact List.le_trans h1 h2
open PyProof.Rows PySem.Spec in
theorem sortedS_eq {xs ys : List Str} (hx : sortedS xs = true) (hy : sortedS ys = true) (p : xs.Perm ys) : xs = ys := by
  have pw : ∀ {l : List Str}, sortedS l = true → l.Pairwise (fun a b => ltCps b.cps.toList a.cps.toList = false) := fun {l} h => by
    cases l with
    | nil => exact .nil
    | cons x r => exact risingS_pw r x h
  refine List.Perm.eq_of_pairwise (fun a b _ _ h1 h2 => ?_) (pw hx) (pw hy) p
  rw [ltCps_eq, decide_eq_false_iff_not, List.not_lt] at h1 h2
  have e := List.le_antisymm h1 h2
  rw [← S_eta a, ← S_eta b, e]
open PyProof.Rows PySem.Spec in
noncomputable def srtS (ks : List Str) : List Str := @dite _ (∃ ys : List Str, ys.Perm ks ∧ sortedS ys = true) (Classical.propDecidable _) (fun h => Classical.choose h) (fun _ => [])
open PyProof.Rows PySem.Spec in
theorem srtS_eq {ks ys : List Str} (p : ys.Perm ks) (h : sortedS ys = true) : ys = srtS ks := by
  unfold srtS
  have e : ∃ ys : List Str, ys.Perm ks ∧ sortedS ys = true := ⟨ys, p, h⟩
  rw [dif_pos e]
  have s := Classical.choose_spec e
  exact sortedS_eq h s.2 (p.trans s.1.symm)
end C
namespace C
open PySem L2
section
variable {X : Cx} {σ : L2.St} {H H' Hb : Hp} {e o i f a b : Expr} {es : List Expr} {sts : List Stmt} {v : V} {pos pos' apos p p2 : Pos} {D : Ends} {t : Addr} {s : Sto} {k : Str} {n : Int} {T : String}
theorem strs_dp {K : PySem.W.Frag} {H : Hp} : ∀ ys : List Str, DpAll K H (ys.map V.str) (ys.map PyData.str)
  | [] => .nil
  | y :: ys => .cons (.str y) (strs_dp ys)
theorem kvS_len (s : Sto) : (kvS s).length = s.length := List.length_map _
theorem ed_get1 (hu : X.A.units + 1 < cLine) (ho : EvV X o σ H (.ref t)) (he : EvD X e σ H (.str k)) (ht : H t = some (.dK (kvS s))) (m : M1 X o "get" apos e pos := by exact ⟨rfl, rfl, rfl, rfl⟩) :
    EvV X (.Call (.Attribute o "get" apos) [e] [] pos) σ H (oV (valS s k)) := fun H1 E tk Q q => PE.b (pe_dget1 hu pe_b pe_b m) (ho H1 E tk _ fun x G H2 f r => by
  subst r
  refine ⟨t, rfl, .inl ⟨_, .inl (f.g2.keep _ _ (f.g.keep _ _ ht rfl) rfl)⟩, he.mono f.g H2 f.g2 f.tok _ fun y G2 H3 f2 r2 => ?_⟩
  cases r2
  refine ⟨_, DGet.k (k := Sum.inr k) (f2.g2.keep _ _ (f2.g.keep _ _ (f.g.keep _ _ ht rfl) rfl) rfl), ?_⟩
  rw [valV_kvS, oV_getD]
  exact q _ G2 H3 (f.trans f2) rfl)
theorem ed_get2 (hu : X.A.units + 1 < cLine) (ho : EvV X o σ H (.ref t)) (he : EvD X e σ H (.str k)) (hf : EvD X f σ H (.int n)) (ht : H t = some (.dK (kvS s))) (m : M2 X o "get" apos e f pos := by exact ⟨rfl, rfl, rfl, rfl⟩) :
    EvD X (.Call (.Attribute o "get" apos) [e, f] [] pos) σ H (.int ((valS s k).getD n)) := fun H1 E tk Q q => PE.b (pe_dget2 hu pe_b pe_b pe_b m) (ho H1 E tk _ fun x G H2 f1 r => by
  subst r
  refine ⟨t, rfl, .inl ⟨_, .inl (f1.g2.keep _ _ (f1.g.keep _ _ ht rfl) rfl)⟩, he.mono f1.g H2 f1.g2 f1.tok _ fun y G2 H3 f2 r2 => hf.mono (f1.g.trans f2.g) H3 f2.g2 f2.tok _ fun z G3 H4 f3 r3 => ?_⟩
  cases r2
  cases r3
  refine ⟨_, DGet.k (k := Sum.inr k) (f3.g2.keep _ _ (f3.g.keep _ _ (f2.g.keep _ _ (f1.g.keep _ _ ht rfl) rfl) rfl) rfl), ?_⟩
  rw [valV_kvS, oV_getI]
  exact q _ G3 H4 ((f1.trans f2).trans f3) (.int _))
theorem ed_ix (hu : X.A.units + 1 < cLine) (ho : EvV X o σ H (.ref t)) (he : EvD X e σ H (.str k)) (ht : H t = some (.dK (kvS s))) (hv : valS s k = some n) (hs : NoSl e := by exact fun _ _ => rfl) :
    EvD X (.Subscript o e pos) σ H (.int n) := fun H1 E tk Q q => PE.b (pe_dget hu pe_b pe_b hs) (ho H1 E tk _ fun x G H2 f r => he.mono f.g H2 f.g2 f.tok _ fun y G2 H3 f2 r2 => by
  subst r
  cases r2
  refine ⟨t, .int n, rfl, ?_, q _ G2 H3 (f.trans f2) (.int _)⟩
  have := DGet.k (k := Sum.inr k) (f2.g2.keep _ _ (f2.g.keep _ _ (f.g.keep _ _ ht rfl) rfl) rfl)
  rw [valV_kvS, hv] at this
  exact this)
theorem ev_sortedD (ha : EvV X a σ H (.ref t)) (ht : H t = some (.dK (kvS s))) (hl : s.length < 64) (hm : X.mg "sorted" = none) (hc : X.calm = true := by rfl) (hg : Gl X "sorted" := by rfl) (he : starEach [a] X.env = (false, eval a X.env) :: starEach [] X.env := by rfl) :
    EvD X (.Call (.Name "sorted" p) [a] [] pos) σ H (.list ((srtS (s.map (·.1))).map PyData.str)) := fun H1 E tk Q q =>
  PE.b (pe_callB (call_sortedD hc) hg hm (by decide +kernel) (pa_cons pe_b pa_nil he) (by decide) (by decide) he) (ha H1 E tk _ fun v G H2 f r => by
    subst r
    refine ⟨t, kvS s, s.map (·.1), rfl, .inl (f.g2.keep _ _ (f.g.keep _ _ ht rfl) rfl), by unfold kvS; rw [List.map_map, List.map_map]; rfl, by rw [List.length_map]; exact hl, fun ys p' hp hs hn => ?_⟩
    have e := srtS_eq hp hs
    subst e
    exact q _ _ _ (f.new hn rfl) (.lst (.inl (.inl upd_same)) (strs_dp _)))
theorem ev_listD {ds : List PyData} (ha : EvD X a σ H (.list ds)) (hm : X.mg "list" = none) (hg : Gl X "list" := by rfl) (he : starEach [a] X.env = (false, eval a X.env) :: starEach [] X.env := by rfl) :
    EvD X (.Call (.Name "list" p) [a] [] pos) σ H (.list ds) := fun H1 E tk Q q =>
  PE.b (pe_callTy call_list_of hg hm (by rfl) (pa_cons pe_b pa_nil he) (by decide) (by decide) he) (ha H1 E tk _ fun v G H2 f r => by
    cases r with
    | @lst ad xs _ hs r =>
      exact ⟨ad, xs, rfl, .inl (f.g2.l hs), fun l hl => q _ _ _ (f.new hl rfl) (.lst (.inl (.inl upd_same)) ((Ext.new (f.g2.fresh hl)).dps r))⟩)
theorem et_isiV {tn : String} {kk : Bool} (ha : EvV X a σ H v) (ty : ∀ G, Ext H G → TyX X.K G v (.type tn)) (hk : kitB tn T = some kk) (hm : X.mg "isinstance" = none) (hmT : X.mg T = none) (hv : bootBuiltins T = some (.type T)) (hg : Gl X "isinstance" := by rfl) (hgT : Gl X T := by rfl)
    (hn : (T : Str) ≠ "__name__" := by decide) (hd : ((T : Str) == ("__debug__" : Str)) = false := by decide)
    (he : starEach [a, .Name T p2] X.env = (false, eval a X.env) :: starEach [.Name T p2] X.env := by rfl) (he2 : starEach [.Name T p2] X.env = [(false, eval (.Name T p2) X.env)] := by rfl) (hpl : (backTo pos (starEach [.Name T p2] X.env)).any (·.1) = false := by rfl) :
    EvD X (.Call (.Name "isinstance" p) [a, .Name T p2] [] pos) σ H (.bool kk) := fun H1 E tk Q q =>
  PE.b (pe_callB call_isi hg hm (by decide +kernel) (pa_cons pe_b (pa_cons (pe_bltn (v := .ty T) hgT hmT hv rfl hn hd) pa_nil he2) he) (by decide) (by decide) he hpl)
    (ha H1 E tk _ fun u G H2 f r => by
      subst r
      exact ⟨u, .ty T, _, _, kk, rfl, .ty T, ty _ (f.g.trans f.g2), kit_ty hk, q _ G H2 f (.bl kk)⟩)
theorem ev_lenP {pp : Addr} {xs : List V} (ha : EvV X a σ H (.ref pp)) (hs : SqT X.K H pp xs) (hm : X.mg "len" = none) (hg : Gl X "len" := by rfl) (he : starEach [a] X.env = (false, eval a X.env) :: starEach [] X.env := by rfl) :
    EvD X (.Call (.Name "len" p) [a] [] pos) σ H (.int (xs.length : Int)) := fun H1 E tk Q q =>
  PE.b (pe_callB call_len_seq hg hm (by decide +kernel) (pa_cons pe_b pa_nil he) (by decide) (by decide) he) (ha H1 E tk _ fun u G H2 f r => by
    subst r
    exact ⟨pp, xs, rfl, .inr (f.g2.t (f.g.t hs)), q _ G H2 f (.int _)⟩)
theorem ev_ixP {pp : Addr} {xs : List V} (ha : EvV X a σ H (.ref pp)) (hs : SqT X.K H pp xs) (hb : EvD X b σ H (.int n)) (h : atI xs n = some v) (hp : PlainIx b := by exact fun _ _ => rfl) : EvV X (.Subscript a b pos) σ H v := fun H1 E tk Q q =>
  PE.b (pe_ix ir_b pe_b pe_b hp) (ha H1 E tk _ fun x G H2 f r => hb.mono f.g H2 f.g2 f.tok _ fun y G2 H3 f2 r2 => by
    subst r
    cases r2
    exact IxR.b ix_tup ⟨_, _, _, _, rfl, rfl, f2.g2.t (f2.g.t (f.g.t hs)), h, q _ G2 H3 (f.trans f2) rfl⟩)
theorem ev_tupV {vs : List V} {x1} (h : EvAV X es σ H vs) (hl : vs.length ≤ 100000) : Ev X (.Tuple es x1 pos) σ H (fun v G => ∃ pp, v = .ref pp ∧ SqT X.K G pp vs) := fun H1 E tk Q q =>
  PE.b (pe_tup pa_b) (h H1 E tk _ fun us G H2 f r => by
    subst r
    exact ⟨line_of hl, fun pp hp => q _ _ _ (f.new hp rfl) ⟨pp, rfl, .inl (.inl upd_same)⟩⟩)
/-- a new dict -/
def EvNew (X : Cx) (e : Expr) (σ : L2.St) (H : Hp) (o : HO) : Prop := Ev X e σ H fun v G => ∃ a, v = .ref a ∧ G a = some o ∧ H a = none
theorem en_dict : EvNew X (.Dict [] [] pos) σ H (.dK (kvS [])) := fun H1 E tk Q q => PE.b pe_dnewK fun p hp => q _ _ _ ((Fr.refl E tk).new hp rfl) ⟨p, rfl, upd_same, E.fresh hp⟩
theorem en_list : EvNew X (.List [] pos) σ H (.lst []) := fun H1 E tk Q q => PE.b (pe_lst pa_nil) ⟨by decide, fun p hp => q _ _ _ ((Fr.refl E tk).new hp rfl) ⟨p, rfl, upd_same, E.fresh hp⟩⟩
/-- x = a new object, which stays out of the base -/
theorem bb_new (i : Nat) (hN : X.N.Nodup) {nm : Str} {o : HO} (h : EvNew X e σ Hb o) (B : Ext Hb H) (tk : TabsOk X.K H) (no : isTbl o = false) (q : ∀ a H2, Ext H H2 → TabsOk X.K H2 → H a = none → H2 a = some o → bB X sts D (σ.set i (some (.ref a))) H2) (hi : X.N[i]? = some nm := by rfl)
    (hx : Loc X.env.scope nm := by first | exact Or.inl rfl | exact Or.inr rfl) (hs : swapsWith e (some (.Name nm pos')) pos.line X.env = pure false := by rfl) (hf : X.fn nm = true ∨ X.env.scope.names.lookup nm = some .local := by first | exact .inl rfl | exact .inr rfl) :
    bB X (.Assign [.Name nm pos'] e pos :: sts) D σ H := bb_ev i hN h B tk (fun v G H2 f p => by
      obtain ⟨a, rfl, ha, n⟩ := p
      refine q a H2 f.h f.tok ?_ (f.g2.keep _ _ ha no)
      cases z : H a with
      | none => rfl
      | some o' => have := f.off a o' n z; rw [ha] at this; cases this) hi hx hs hf
/-- o[i] = e, o a tracked dict -/
theorem bb_setD (hu : X.A.units + 1 < cLine) (he : EvV X e σ Hb (.int n)) (ho : EvV X o σ Hb (.ref t)) (hi : EvD X i σ Hb (.str k)) (B : Ext Hb H) (tk : TabsOk X.K H) (hl : H t = some (.dK (kvS s))) (hj : s.length ≤ 1000)
    (q : ∀ H2, Ext H H2 → TabsOk X.K H2 → bB X sts D σ (upd H2 t (.dK (kvS (putS s k n)))))
    (hs : swapsWith e (some (.Subscript o i pos')) pos.line X.env = pure false := by rfl) :
    bB X (.Assign [.Subscript o i pos'] e pos :: sts) D σ H := bb_cons (PS.b (ps_dput hu pe_b pe_b pe_b hs) (he H B tk _ fun u G H2 f e1 => by
      subst e1
      exact ho.mono f.g H2 f.g2 f.tok _ fun u2 G2 H3 f2 e2 => by
        subst e2
        exact hi.mono (f.g.trans f2.g) H3 f2.g2 f2.tok _ fun u3 G3 H4 f3 r => by
          cases r
          have e4 := (f.h.trans f2.h).trans f3.h
          refine ⟨t, _, rfl, DPut.k (k := Sum.inr k) (e4.keep _ _ hl rfl) (Nat.lt_of_le_of_lt (by rw [kvS_len]; exact hj : (kvS s).length ≤ 1000) (by decide)), ?_⟩
          rw [putK_kvS]
          exact q H4 e4 f3.tok))
/-- o.pop(i, None) for itself -/
theorem bb_popD {p3 : Pos} (ho : EvV X o σ Hb (.ref t)) (hi : EvD X i σ Hb (.str k)) (hf : EvD X f σ Hb .none) (B : Ext Hb H) (tk : TabsOk X.K H) (hl : H t = some (.dK (kvS s)))
    (q : ∀ H2, Ext H H2 → TabsOk X.K H2 → bB X sts D σ (upd H2 t (.dK (kvS (dropS s k)))))
    (m : M2 X o "pop" apos i f pos := by exact ⟨rfl, rfl, rfl, rfl⟩) (hs : swapsWith (.Call (.Attribute o "pop" apos) [i, f] [] pos) none p3.line X.env = pure false := by rfl) :
    bB X (.Expr (.Call (.Attribute o "pop" apos) [i, f] [] pos) p3 :: sts) D σ H := bb_cons (PS.b (ps_expr (pe_dpop2 pe_b pe_b pe_b m) hs) (ho H B tk _ fun u G H2 f1 e1 => by
      subst e1
      refine ⟨t, rfl, .inl ⟨_, .inl (f1.h.keep _ _ hl rfl)⟩, hi.mono f1.g H2 f1.g2 f1.tok _ fun y G2 H3 f2 r2 => hf.mono (f1.g.trans f2.g) H3 f2.g2 f2.tok _ fun z G3 H4 f3 r3 => ?_⟩
      cases r2
      have e4 := (f1.h.trans f2.h).trans f3.h
      have h4 := e4.keep _ _ hl rfl
      refine ⟨_, Sum.inr k, h4, rfl, fun v hv => ?_, fun hv => ?_⟩
      · rw [dropK_kvS]
        exact q H4 e4 f3.tok
      · have hn : valS s k = none := by rw [valV_kvS] at hv; cases z : valS s k with
          | none => rfl
          | some i => rw [z] at hv; cases hv
        have : H4 = upd H4 t (.dK (kvS (dropS s k))) := by
          funext b
          by_cases z : b = t
          · subst z; rw [upd_same, dropS_no hn]; exact h4
          · rw [upd_ne z]
        rw [this]
        exact q H4 e4 f3.tok))
end
end C
namespace C
open PySem L2
theorem FrM.stepE {K : PySem.W.Frag} {t : Addr} {H H1 G H2 H3 : Hp} (a : FrM K t H H1 G H2) (e : Ext H2 H3) (tk : TabsOk K H3) : FrM K t H H1 G H3 := ⟨a.g, a.g2.trans e, a.h.trans e, a.off, tk⟩
theorem FrM.outO {K : PySem.W.Frag} {t : Addr} {H H1 G H5 G2 H6 : Hp} {o : HO} (n : isTbl o = false) (a : FrM K t H H1 G H5) (hG : G t = none) (hl : H5 t = some o) (f : Fr K (upd G t o) H5 G2 H6) : FrM K t H H1 (dl G2 t) H6 ∧ H6 t = some o ∧ G2 t = some o :=
  ⟨⟨a.g.trans (((Ext.new hG).trans f.g).dl_r hG), dl_ext.trans f.g2, a.h.trans f.h, fun b o' n' q => by
    by_cases z : b = t
    · subst z; exact dl_same
    · rw [dl_ne z]
      obtain ⟨o'', r⟩ := a.h.dom b o' (by rw [dl_ne z]; exact q)
      exact f.off b o'' (by rw [upd_ne z]; exact a.off b o' n' q) r, f.tok⟩, f.h.keep _ _ hl n, f.g.keep _ _ upd_same n⟩
theorem isNone_oD (o : Option Int) : isNone (oD o) = o.isNone := by cases o <;> rfl
/-- a store in which one deed is done -/
def SpDo (K : PySem.W.Frag) : Sp := fun vs H Q _ => ∃ G t s x vd, Ext G H ∧ TabsOk K H ∧ G t = none ∧ H t = some (.dK (kvS s)) ∧ vs = [.ref t, vd] ∧ Dp K G vd x.d ∧ s.length ≤ 900 ∧
  ∀ G' H2, FrM K t G H G' H2 → G' t = none → H2 t = some (.dK (kvS (stepS s x).1)) → Q (oV (stepS s x).2) H2
end C
namespace C
open PySem L2
theorem stepS_put {s : Sto} {x : Deed} (h : x.w = "put") : stepS s x = (putS s x.k x.v, valS s x.k) := by unfold stepS; rw [if_pos h]
theorem stepS_away {s : Sto} {x : Deed} (h : x.w = "away") : stepS s x = (dropS s x.k, valS s x.k) := by unfold stepS; rw [if_neg (by rw [h]; decide), if_pos h]
theorem stepS_add {s : Sto} {x : Deed} (h : x.w = "add") : stepS s x = (putS s x.k ((valS s x.k).getD 0 + x.v), some ((valS s x.k).getD 0 + x.v)) := by unfold stepS; rw [if_neg (by rw [h]; decide), if_neg (by rw [h]; decide), if_pos h]
theorem stepS_none {s : Sto} {x : Deed} (h1 : ¬ x.w = "put") (h2 : ¬ x.w = "away") (e : valS s x.k = none) : stepS s x = (putS s x.k x.v, some x.v) := by
  unfold stepS
  rw [if_neg h1, if_neg h2, e]
  split
  · show (putS s x.k (0 + x.v), some (0 + x.v)) = _; rw [Int.zero_add]
  · rfl
theorem stepS_some {s : Sto} {x : Deed} {i : Int} (h1 : ¬ x.w = "put") (h2 : ¬ x.w = "away") (h3 : ¬ x.w = "add") (e : valS s x.k = some i) : stepS s x = (s, some i) := by unfold stepS; rw [if_neg h1, if_neg h2, if_neg h3, e]
theorem Fr.thenM {K : PySem.W.Frag} {t : Addr} {H H1 G H2 G' H3 : Hp} (a : Fr K H H1 G H2) (b : FrM K t G H2 G' H3) (h : H1 t = none) : Fr K H H1 G' H3 :=
  ⟨a.g.trans b.g, b.g2, (a.h.dl_r h).trans b.h, fun x o n q => by obtain ⟨o', r⟩ := a.h.dom x o q; exact b.off x o' (a.off x o n q) r, b.tok⟩
section
variable {X : Cx} {σ : L2.St} {H H' Hb : Hp} {e o : Expr} {sts : List Stmt} {pos apos p3 : Pos} {D : Ends} {u : Addr}
/-- o.append(e), o a tracked list -/
theorem bb_app {l0 : List V} (ho : EvV X o σ Hb (.ref u)) (B : Ext Hb H) (tk : TabsOk X.K H) (hl : H u = some (.lst l0))
    (h : ∀ H2, Ext H H2 → TabsOk X.K H2 → ∀ Q : VK, (∀ y H3 xs, H3 u = some (.lst xs) → xs.length ≤ 1000 → bB X sts D σ (upd H3 u (.lst (xs ++ [y]))) → Q y H3) → bE X e σ H2 Q)
    (hs : swapsWith (.Call (.Attribute o "append" apos) [e] [] pos) none p3.line X.env = pure false := by rfl) (hbase : attributeBase o "append" X.env (eval o X.env) = eval o X.env := by rfl)
    (hfew : ((backTo pos (starEach [e] X.env)).all (fun x => !x.1) && (backToKw pos (keywordEach [] X.env)).all (fun x => x.1.isSome)
      && decide (([e] : List Expr).length + ([] : List Keyword).length + (if ([] : List Keyword).isEmpty then 0 else 1) < 30)) = true := by rfl)
    (hline : (apos.endLine == pos.line) = true := by rfl) (he : starEach [e] X.env = (false, eval e X.env) :: starEach [] X.env := by rfl) (hplain : (backTo pos (starEach [] X.env)).any (·.1) = false := by rfl) :
    bB X (.Expr (.Call (.Attribute o "append" apos) [e] [] pos) p3 :: sts) D σ H :=
  bb_cons (PS.b (ps_expr (pe_bm PySem.F.plainAttrs_list PySem.F.slot_list_append PySem.F.type_list_append mt_append pe_b (pa_cons pe_b pa_nil he) hbase hfew hline he hplain) hs) (ho H B tk _ fun v G H2 f r => by
    subst r
    have h2 := f.h.keep _ _ hl rfl
    refine ⟨.inl ⟨rfl, _, .inl (.inl h2)⟩, ?_⟩
    exact h H2 f.h f.tok _ fun y H3 xs q1 q2 q3 => ⟨u, xs, y, rfl, rfl, q1, Nat.lt_of_le_of_lt q2 (by decide), q3⟩))
end
/-- deeds done from the empty store on: the pair of two new things, the caller's own -/
def SpPl (K : PySem.W.Frag) : Sp := fun vs H Q _ => ∃ G xs vd, Ext G H ∧ TabsOk K H ∧ vs = [vd] ∧ Dp K G vd (.list (xs.map Deed.d)) ∧ xs.length ≤ 60 ∧
  ∀ p t u G' H2, Fr K G H G' H2 → G' t = none → G' u = none → H t = none → H u = none → t ≠ u → SqT K G' p [.ref t, .ref u] → H2 t = some (.dK (kvS (stoAt xs xs.length))) → H2 u = some (.lst ((ansF xs xs.length).map oV)) → Q (.ref p) H2
end C
namespace C
open PySem L2
/-! ### rows of a store, told by its sorted keys -/
open PyProof.Rows PySem.Spec in
theorem srtS_perm (ks : List Str) : srtS ks = [] ∨ (srtS ks).Perm ks := by
  unfold srtS
  by_cases e : ∃ ys : List Str, ys.Perm ks ∧ sortedS ys = true
  · rw [dif_pos e]; exact .inr (Classical.choose_spec e).1
  · rw [dif_neg e]; exact .inl rfl
theorem srtS_mem {ks : List Str} {k : Str} (h : k ∈ srtS ks) : k ∈ ks := by
  rcases srtS_perm ks with e | e
  · rw [e] at h; cases h
  · exact e.mem_iff.mp h
theorem srtS_len (ks : List Str) : (srtS ks).length ≤ ks.length := by
  rcases srtS_perm ks with e | e
  · rw [e]; exact Nat.zero_le _
  · rw [e.length_eq]; exact Nat.le_refl _
def rowF (s : Sto) : PyData → PyData
  | .str k => .tuple [.str k, oD (valS s k)]
  | d => d
noncomputable abbrev rowsD (s : Sto) : PyData := .list ((srtS (s.map (·.1))).map fun k => .tuple [.str k, oD (valS s k)])
theorem rows_eq (s : Sto) : (((srtS (s.map (·.1))).map PyData.str).filter (fun _ => true)).map (rowF s) = (srtS (s.map (·.1))).map fun k => .tuple [.str k, oD (valS s k)] := by
  rw [List.filter_eq_self.mpr (fun _ _ => rfl), List.map_map]
  rfl
theorem alk_o (n : Nat) (o : Option Int) : Alk n (oD o) := by cases o with
  | none => exact .non
  | some i => exact .int i
theorem alk_rows {s : Sto} (h : s.length ≤ 60) : Alk 2 (rowsD s) := .lst (fun d hd => by
  obtain ⟨k, _, rfl⟩ := List.mem_map.mp hd
  refine .tup (fun d hd => ?_) (by show 2 ≤ 40000; decide)
  simp only [List.mem_cons, List.not_mem_nil, or_false] at hd
  rcases hd with rfl | rfl
  · exact .str k
  · exact alk_o _ _) (by have := srtS_len (s.map (·.1)); rw [List.length_map] at this; rw [List.length_map]; omega)
theorem alk_ans {as : List (Option Int)} (h : as.length ≤ 60) : Alk 1 (.list (as.map oD)) := .lst (fun d hd => by
  obtain ⟨o, _, rfl⟩ := List.mem_map.mp hd
  exact alk_o _ _) (by rw [List.length_map]; omega)
theorem ans_dp {K : PySem.W.Frag} {H : Hp} : ∀ as : List (Option Int), DpAll K H (as.map oV) (as.map oD)
  | [] => .nil
  | o :: as => .cons (dp_oV o) (ans_dp as)
section
variable {X : Cx} {σ : L2.St} {H Hb : Hp} {e o a elt iter : Expr} {es : List Expr} {sts : List Stmt} {pos pos' p3 apos px p : Pos} {D : Ends} {u : Addr} {x : Str} {scope : Scope} {ds : List PyData} {xs : List Deed}
theorem ek_lcL0 (i : Nat) (f : PyData → PyData) (h : EvD X iter σ H (.list ds)) (hsz : ds.length ≤ 40000) (hN : X.N.Nodup)
    (he : ∀ d v s H0 C cl fp G, d ∈ ds → Ext H G → Dp X.K G v d → EvD (bk X scope s H0 C cl fp) elt ((wipe σ [i]).set i (some v)) G (f d))
    (ok : BlkOk X.N X.env.scope scope [(x, i)]) (hw : ∀ y, wipe ((wipe σ [i]).set i (some y)) [i] = wipe σ [i])
    (hx : ∀ s H0 C cl fp, PG (bk X scope s H0 C cl fp) (.Name x px) (gName i)) (hc : X.calm = true := by rfl)
    (hfs : ∀ y, foldedSetIterable iter X.env y = pure y := by intro _; rfl) :
    EvK X (.ListComp elt [⟨.Name x px, iter, [], 0⟩] scope pos) σ H ((ds.filter fun _ => true).map f) :=
  ek_lcL i (fun _ => true) f h hsz hN (fun d v s H0 C cl fp G _ _ _ H1 E tk Q q pins s' I => pts_nil.run pins s' _ H1 Q I (q G H1 (Fr.refl E tk))) (fun d v s H0 C cl fp G hd E r _ => he d v s H0 C cl fp G hd E r) ok hw hx hc hfs
/-- y = [elt for x in l] -/
theorem bb_setLc0 {y : Str} {py spos : Pos} (k i : Nat) (f : PyData → PyData) (h : EvD X iter σ Hb (.list ds)) (hsz : ds.length ≤ 40000) (hN : X.N.Nodup)
    (he : ∀ d v s H0 C cl fp G, d ∈ ds → Ext Hb G → Dp X.K G v d → EvD (bk X scope s H0 C cl fp) elt ((wipe σ [i]).set i (some v)) G (f d))
    (ok : BlkOk X.N X.env.scope scope [(x, i)]) (hw : ∀ y, wipe ((wipe σ [i]).set i (some y)) [i] = wipe σ [i])
    (hx : ∀ s H0 C cl fp, PG (bk X scope s H0 C cl fp) (.Name x px) (gName i)) (E : Ext Hb H) (tk : TabsOk X.K H)
    (q : ∀ v G H2, Fr X.K Hb H G H2 → Dp X.K G v (.list ((ds.filter fun _ => true).map f)) → bB X sts D (σ.set k (some v)) H2) (hc : X.calm = true := by rfl)
    (hfs : ∀ y, foldedSetIterable iter X.env y = pure y := by intro _; rfl) (hy : X.N[k]? = some y := by rfl) (hyl : X.env.scope.names.lookup y = some .local := by rfl)
    (hsw : swapsWith (.ListComp elt [⟨.Name x px, iter, [], 0⟩] scope pos) (some (.Name y py)) spos.line X.env = pure true := by rfl) :
    bB X (.Assign [.Name y py] (.ListComp elt [⟨.Name x px, iter, [], 0⟩] scope pos) spos :: sts) D σ H :=
  bb_setLcL k i (fun _ => true) f h hsz hN (fun d v s H0 C cl fp G _ _ _ H1 E tk Q q pins s' I => pts_nil.run pins s' _ H1 Q I (q G H1 (Fr.refl E tk))) (fun d v s H0 C cl fp G hd E r _ => he d v s H0 C cl fp G hd E r) ok hw hx hc hfs E tk q hy hyl hsw
theorem bb_asgE (i : Nat) (hN : X.N.Nodup) {n : Str} (h : bE X e σ H fun v H2 => bB X sts D (σ.set i (some v)) H2) (hi : X.N[i]? = some n := by rfl)
    (hx : Loc X.env.scope n := by first | exact Or.inl rfl | exact Or.inr rfl) (hs : swapsWith e (some (.Name n pos')) pos.line X.env = pure false := by rfl) (hf : X.fn n = true ∨ X.env.scope.names.lookup n = some .local := by first | exact .inl rfl | exact .inr rfl) :
    bB X (.Assign [.Name n pos'] e pos :: sts) D σ H := bb_cons (PS.b (ps_set hN hi hx pe_b hs hf) h)
/-- x = plainly(deeds) -/
theorem bb_pl (i : Nat) (hN : X.N.Nodup) {n : Str} {CX : CXT} {k : Nat} {f : Addr} {fd : FuncData} {ps : List Str} {E : XK} {nm : Str} (F : FnOk X.prog X.w X.K X.mg X.base CX k f fd ps (SpPl X.K)) (hr : Room k X.A) (hg : Gl X nm) (hm : X.mg nm = some (.ref f)) (hk : PySem.W.keepIn X.K (.ref f) = true) (hb : Binds X.K fd ps [])
    (hxx : Passes CX X E) (ha : EvD X a σ Hb (.list (xs.map Deed.d))) (hxs : xs.length ≤ 60) (B : Ext Hb H) (tk : TabsOk X.K H)
    (q : ∀ p t u G' H2, Fr X.K Hb H G' H2 → G' t = none → G' u = none → H t = none → H u = none → t ≠ u → SqT X.K G' p [.ref t, .ref u] → H2 t = some (.dK (kvS (stoAt xs xs.length))) → H2 u = some (.lst ((ansF xs xs.length).map oV)) → bB X sts D (σ.set i (some (.ref p))) H2)
    (hdb : (nm == ("__debug__" : Str)) = false := by decide) (he : starEach [a] X.env = (false, eval a X.env) :: starEach [] X.env := by rfl) (hpl : (backTo apos (starEach [] X.env)).any (·.1) = false := by rfl)
    (hi : X.N[i]? = some n := by rfl)
    (hx : Loc X.env.scope n := by first | exact Or.inl rfl | exact Or.inr rfl) (hs : swapsWith (.Call (.Name nm p) [a] [] apos) (some (.Name n pos')) pos.line X.env = pure false := by rfl) (hf : X.fn n = true ∨ X.env.scope.names.lookup n = some .local := by first | exact .inl rfl | exact .inr rfl) :
    bB X (.Assign [.Name n pos'] (.Call (.Name nm p) [a] [] apos) pos :: sts) D σ H :=
  bb_asgE i hN (bE_call (P := fun us G => DpAll X.K G us [.list (xs.map Deed.d)]) F hr hg hm hk hb hxx (ea_cons ha ea_nil he) B tk (fun us G4 H4 f4 r4 => by
    obtain ⟨vd, rfl, rd⟩ := all1 r4
    exact ⟨G4, xs, vd, f4.g2, f4.tok, rfl, rd, hxs, fun p t u G' H2 F g1 g2 h1 h2 ntu sq ht hu => q p t u G' H2 (f4.trans F) g1 g2 (f4.h.fresh h1) (f4.h.fresh h2) ntu sq ht hu⟩) hdb he hpl) hi hx hs hf
end
/-! ### the deeds drawn are plain -/
theorem letter_lt {c : Nat} (h : letter c = true) : c < 128 := by
  unfold letter at h
  rw [Bool.and_eq_true] at h
  have e : (Str.ofString "z").cps.toList = [122] := by decide +kernel
  have h2 := h.2
  rw [e] at h2
  have h3 : ¬ ([122] : List Nat) < [c] := by simpa only [Bool.not_eq_true', decide_eq_false_iff_not] using h2
  exact Nat.lt_of_not_le fun z => h3 (List.Lex.rel (by omega))
theorem keyS_okS {z : Str} (h : keyS z = true) : okS z = true := by
  unfold keyS at h
  rw [Bool.and_eq_true, Bool.and_eq_true] at h
  have h8 := of_decide_eq_true h.1.2
  unfold okS
  rw [Bool.and_eq_true]
  exact ⟨decide_eq_true (by omega), List.all_eq_true.mpr fun c hc => decide_eq_true (letter_lt (List.all_eq_true.mp h.2 c hc))⟩
theorem getD_cases {α : Type} (l : List α) (i : Nat) (y : α) : l.getD i y ∈ l ∨ l.getD i y = y := by
  rw [List.getD_eq_getElem?_getD]
  cases e : l[i]? with
  | none => exact .inr rfl
  | some z => exact .inl (List.mem_of_getElem? e)
theorem wordF_ok (n : Int) : okS (wordF n) = true := by
  unfold wordF
  rcases getD_cases wordsL (n / 150 % 4).toNat (S []) with h | h
  · have : ∀ w ∈ wordsL, okS w = true := by decide +kernel
    exact this _ h
  · rw [h]; decide +kernel
def plainDeeds (xs : List Deed) : Prop := ∀ x ∈ xs, okS x.w = true ∧ okS x.k = true
theorem deedsF_plain {ks : List Str} (hk : ∀ z ∈ ks, keyS z = true) (cells : List Int) : plainDeeds (deedsF cells ks) := fun x hx => by
  unfold deedsF at hx
  obtain ⟨j, _, rfl⟩ := List.mem_map.mp hx
  refine ⟨wordF_ok _, ?_⟩
  show okS (ks.getD _ (S [])) = true
  rcases getD_cases ks (mixed (cells.getD j 0) j / 7 % 4).toNat (S []) with h | h
  · exact keyS_okS (hk _ h)
  · rw [h]; decide +kernel
theorem deedsF_len (cells : List Int) (ks : List Str) : (deedsF cells ks).length = cells.length := by simp [deedsF]
theorem deeds_good {xs : List Deed} (h : plainDeeds xs) : good 2 (.list (xs.map Deed.d)) = true := by
  show (xs.map Deed.d).all (good 1) = true
  rw [List.all_eq_true]
  intro d hd
  obtain ⟨x, hx, rfl⟩ := List.mem_map.mp hd
  obtain ⟨h1, h2⟩ := h x hx
  show [PyData.int x.a, .int x.t, .str x.w, .str x.k, .int x.v].all (good 0) = true
  simp [good, h1, h2]
theorem deeds_shaped {xs : List Deed} (h : plainDeeds xs) : SeqAt.shaped (.list (xs.map Deed.d)) = true := good_shaped (deeds_good h) (by decide)
theorem deeds_eqv {xs : List Deed} (h : plainDeeds xs) : PyData.eqv (.list (xs.map Deed.d)) (.list (xs.map Deed.d)) = true := SeqAt.eqv_refl _ (SeqAt.canLay_of_shaped (deeds_shaped h))
end C
namespace C
open PySem L2
theorem tyx_t {K : PySem.W.Frag} {H : Hp} {p : Addr} {xs : List V} (hs : SqT K H p xs) : TyX K H (.ref p) (.type "tuple") := by
  rcases hs with (hs | ⟨o, hs⟩) | ⟨o, _, _, h1, h2, _⟩
  · exact .base (.tup hs)
  · exact .fTuple hs
  · exact .kTuple h1 h2
end C

namespace C
open PySem L2
/-! ### dicts that are walked -/
theorem Ext.rdK {H H' : Hp} {a : Addr} {kvs : List (Key × V)} (e : Ext H H') (r : Rd H a (.dK kvs)) : Rd H' a (.dK kvs) := by
  rcases r with r | ⟨o, r⟩
  · exact .inl (e.keep _ _ r rfl)
  · exact .inr ⟨o, e.keep _ _ r rfl⟩
theorem upd_comm {H : Hp} {a b : Addr} {x y : HO} (h : a ≠ b) : upd (upd H a x) b y = upd (upd H b y) a x := by
  funext c
  unfold upd
  by_cases h1 : c = b
  · by_cases h2 : c = a
    · exact absurd (h2.symm.trans h1) h
    · rw [if_pos h1, if_neg h2, if_pos h1]
  · rw [if_neg h1]
    by_cases h2 : c = a
    · rw [if_pos h2, if_pos h2]
    · rw [if_neg h2, if_neg h2, if_neg h1]
theorem upd_self {H : Hp} {a : Addr} {x : HO} (h : H a = some x) : upd H a x = H := by
  funext c
  unfold upd
  split
  · rename_i e; rw [e, h]
  · rfl
theorem for_keys {d : Addr} {od : Obj} {kvs : List (Key × V)} {g : TG} {tb : TS} {D : Ends} {σ : L2.St} {H : Hp} (Pv : Nat → L2.St → Hp → Prop) (h0 : Pv 0 σ H) (hl : ∀ i σ H, i ≤ kvs.length → Pv i σ H → H d = some (.frz od (.dK kvs)))
    (hs : ∀ i k v σ H, kvs[i]? = some (k, v) → Pv i σ H → g (kV k) σ H fun σ2 H2 => tb { D with nx := Pv (i + 1), ct := Pv (i + 1), bk := D.nx } σ2 H2) (hd : ∀ σ H, Pv kvs.length σ H → D.nx σ H) :
    ∃ W : Nat → Nat → L2.St → Hp → Prop, (∃ m, W 0 m σ H) ∧ ∀ i m σ H, W i m σ H →
      ((Itk d od kvs).stop i H ∧ D.nx σ H) ∨ ((Itk d od kvs).go i H ∧ ∃ N : L2.St → Hp → Prop, (∀ σ' H', N σ' H' → ∃ m', m' < m ∧ W (i + 1) m' σ' H') ∧ ∀ x H', (Itk d od kvs).yld i H x H' → g x σ H' fun σ2 H2 => tb { D with nx := N, ct := N, bk := D.nx } σ2 H2) := by
  refine ⟨fun i m σ H => m = kvs.length - i ∧ i ≤ kvs.length ∧ Pv i σ H, ⟨kvs.length, by simp, Nat.zero_le _, h0⟩, ?_⟩
  rintro i m σ H ⟨rfl, hi, p⟩
  have q := hl i σ H hi p
  by_cases hlt : i < kvs.length
  · refine .inr ⟨⟨q, hlt⟩, Pv (i + 1), fun σ' H' p' => ⟨kvs.length - (i + 1), by omega, rfl, hlt, p'⟩, fun x H' y => ?_⟩
    obtain ⟨rfl, k, v, hk, rfl⟩ := y
    exact hs i k v σ _ hk p
  · have e : i = kvs.length := by omega
    rw [e] at p
    exact .inl ⟨⟨q, by omega⟩, hd σ H p⟩
section
variable {X : Cx} {σ : L2.St} {H Hb : Hp} {e o i a iter : Expr} {es : List Expr} {sts body : List Stmt} {pos p0 p apos pos' : Pos} {D : Ends} {t : Addr} {s : Sto} {k : Str} {n : Int}
/-- for x in d, d a tracked dict -/
theorem bb_forD {x : Str} (i : Nat) (hN : X.N.Nodup) (Pv : Obj → Nat → L2.St → Hp → Prop) (h : ∀ H, EvV X iter σ H (.ref t)) (tk : TabsOk X.K H) (hl : H t = some (.dK (kvS s)))
    (h0 : ∀ od H2, Ext (upd H t (.frz od (.dK (kvS s)))) H2 → TabsOk X.K H2 → Pv od 0 σ H2) (hf : ∀ od j σ' H', j ≤ s.length → Pv od j σ' H' → H' t = some (.frz od (.dK (kvS s))))
    (hs : ∀ od j k n σ' H', s[j]? = some (k, n) → Pv od j σ' H' → bB X body ⟨Pv od (j + 1), fun v H' => H' t = some (.frz od (.dK (kvS s))) ∧ D.rt v (upd H' t (.dK (kvS s))), fun σ' H' => H' t = some (.frz od (.dK (kvS s))) ∧ bB X sts D σ' (upd H' t (.dK (kvS s))), Pv od (j + 1)⟩ (σ'.set i (some (.str k))) H')
    (hd : ∀ od σ' H', Pv od s.length σ' H' → bB X sts D σ' (upd H' t (.dK (kvS s))))
    (hp : PassesOwn (model X.prog X.w) X.A X.env X.xe) (hc : X.calm = true := by rfl) (hi : X.N[i]? = some x := by rfl)
    (hn : Loc X.env.scope x := by first | exact Or.inl rfl | exact Or.inr rfl) (hfn : X.fn x = true ∨ X.env.scope.names.lookup x = some .local := by first | exact .inl rfl | exact .inr rfl) (hfs : ∀ x, foldedSetIterable iter X.env x = pure x := by intro _; rfl) :
    bB X (.For (.Name x p0) iter body [] pos :: sts) D σ H :=
  bb_cons (PS.b (ps_lock (ps_for hp hc (pi_keys pe_b) (pg_name hN hi hn hfn) pss_b hfs)) ⟨t, .dK (kvS s), hl, trivial, fun od => h _ _ (Ext.refl _) (tk.upd rfl) _ fun v G H2 f r => by
    subst r
    have h2 : H2 t = some (.frz od (.dK (kvS s))) := f.h.keep _ _ upd_same rfl
    refine ⟨t, od, rfl, .inl ⟨kvS s, h2, for_keys (Pv od) (h0 od H2 f.h f.tok) (fun j σ' H' hj p => hf od j σ' H' (by rw [kvS_len] at hj; exact hj) p) (fun j kk v σ' H' hj p => ?_) (fun σ' H' p => ?_)⟩⟩
    · unfold kvS at hj
      rw [List.getElem?_map] at hj
      cases e : s[j]? with
      | none => rw [e] at hj; cases hj
      | some q =>
        rw [e] at hj
        cases hj
        exact hs od j q.1 q.2 σ' H' e p
    · rw [kvS_len] at p
      exact ⟨hf od _ σ' H' (Nat.le_refl _) p, hd od σ' H' p⟩⟩)
theorem ed_ixR (hu : X.A.units + 1 < cLine) (ho : EvV X o σ H (.ref t)) (he : EvD X e σ H (.str k)) (ht : Rd H t (.dK (kvS s))) (hv : valS s k = some n) (hs : NoSl e := by exact fun _ _ => rfl) :
    EvD X (.Subscript o e pos) σ H (.int n) := fun H1 E tk Q q => PE.b (pe_dget hu pe_b pe_b hs) (ho H1 E tk _ fun x G H2 f r => he.mono f.g H2 f.g2 f.tok _ fun y G2 H3 f2 r2 => by
  subst r
  cases r2
  refine ⟨t, .int n, rfl, .inl ⟨kvS s, Sum.inr k, f2.g2.rdK (f2.g.rdK (f.g.rdK ht)), rfl, by rw [valV_kvS, hv]; rfl⟩, q _ G2 H3 (f.trans f2) (.int _)⟩)
theorem et_inD (hu : X.A.units + 1 < cLine) (he : EvD X e σ H (.str k)) (ho : EvV X o σ H (.ref t)) (ht : Rd H t (.dK (kvS s))) (hm : behindInMarks .In o = false := by rfl) : EvT X (.Compare e [.In] [o] pos) σ H (valS s k).isSome := fun H1 E tk Q q =>
  PT.b (pt_cmp (pc_din hu pe_b pe_b) hm) (he H1 E tk _ fun y G H2 f r => ho.mono f.g H2 f.g2 f.tok _ fun x G2 H3 f2 r2 => by
    subst r2
    cases r
    refine ⟨t, _, rfl, .inl ⟨kvS s, Sum.inr k, f2.g2.rdK (f2.g.rdK (f.g.rdK ht)), rfl, rfl⟩, (valS s k).isSome, ?_, q G2 H3 (f.trans f2)⟩
    rw [valV_kvS, Option.isSome_map])
theorem en_dictD (ha : EvV X a σ H (.ref t)) (ht : Rd H t (.dK (kvS s))) (hm : X.mg "dict" = none) (hg : Gl X "dict" := by rfl) (he : starEach [a] X.env = (false, eval a X.env) :: starEach [] X.env := by rfl) :
    EvNew X (.Call (.Name "dict" p) [a] [] pos) σ H (.dK (kvS s)) := fun H1 E tk Q q =>
  PE.b (pe_callTy call_dictD hg hm (by rfl) (pa_cons pe_b pa_nil he) (by decide) (by decide) he) (ha H1 E tk _ fun v G H2 f r => by
    subst r
    exact ⟨t, kvS s, rfl, f.g2.rdK (f.g.rdK ht), fun pp hp => q _ _ _ (f.new hp rfl) ⟨pp, rfl, upd_same, f.g.fresh (f.g2.fresh hp)⟩⟩)
/-- a value by what is known of it, then given ones -/
theorem eap_cons {P : VP} {vs : List V} (h : Ev X e σ H P) (mono : ∀ v G G', Ext G G' → P v G → P v G') (h2 : EvAV X es σ H vs) (hs : starEach (e :: es) X.env = (false, eval e X.env) :: starEach es X.env := by rfl) :
    EvA X (e :: es) σ H (fun us G => ∃ v, us = v :: vs ∧ P v G) := fun H1 E t Q q =>
  PA.b (pa_cons pe_b pa_b hs) (h H1 E t _ fun v G H2 f r => (show EvAV X es σ G vs from fun H1 a t Q q => h2 H1 (f.g.trans a) t Q fun v G2 H2 f2 p => q v _ H2 ⟨Ext.refl _, a.trans f2.h, f2.h, fun b o n _ => n, f2.tok⟩ p) H2 f.g2 f.tok _ fun us G2 H3 f2 s => by
    subst s
    exact q _ G2 H3 (f.trans f2) ⟨v, rfl, mono _ _ _ f2.g r⟩)
/-- == of two dicts with the same rows -/
theorem nd_val {s : Sto} (hn : (s.map (·.1)).Nodup) : ∀ (j : Nat) (k : Str) (n : Int), s[j]? = some (k, n) → valS s k = some n := by
  induction s with
  | nil => intro j k n h; simp at h
  | cons p r ih =>
    intro j k n h
    rw [List.map_cons, List.nodup_cons] at hn
    cases j with
    | zero => simp at h; subst h; exact valS_pos rfl
    | succ j =>
      have h' : r[j]? = some (k, n) := by simpa using h
      have hk : k ∈ r.map (·.1) := List.mem_map.mpr ⟨_, List.mem_of_getElem? h', rfl⟩
      rw [valS_neg (fun z => hn.1 (by rw [z]; exact hk))]
      exact ih hn.2 j k n h'
theorem rows_dict (hn : (s.map (·.1)).Nodup) : ∀ p ∈ kvS s, valV (kvS s) p.1 = some p.2 ∧ flatB p.2 = true := fun q hq => by
  obtain ⟨r, hr, rfl⟩ := List.mem_map.mp hq
  obtain ⟨j, hj⟩ := List.getElem?_of_mem hr
  refine ⟨?_, rfl⟩
  show valV (kvS s) (Sum.inr r.1) = _
  rw [valV_kvS, nd_val hn j r.1 r.2 hj]
  rfl
variable {b : Expr} {u : Addr}
theorem et_neDD (hu : X.A.units < cLine) (hn : (s.map (·.1)).Nodup) (ha : EvV X a σ H (.ref t)) (hb : EvV X b σ H (.ref u)) (ht : H t = some (.dK (kvS s))) (h2 : H u = some (.dK (kvS s))) (hm : behindInMarks .NotEq b = false := by rfl) : EvT X (.Compare a [.NotEq] [b] pos) σ H false := fun H1 E tk Q q =>
  PT.b (pt_cmpR or_b pe_b pe_b hm) (ha H1 E tk _ fun x G H2 f p => hb.mono f.g H2 f.g2 f.tok _ fun y G2 H3 f2 r => by
    subst p
    subst r
    exact OpR.b (op_ne_dictA hu) ⟨t, u, kvS s, kvS s, rfl, rfl, f2.g2.keep _ _ (f2.g.keep _ _ (f.g.keep _ _ ht rfl) rfl) rfl, f2.g2.keep _ _ (f2.g.keep _ _ (f.g.keep _ _ h2 rfl) rfl) rfl, rfl, rows_dict hn, ⟨false, rfl, q G2 H3 (f.trans f2)⟩⟩)
theorem ev_eqDD (hu : X.A.units < cLine) (hn : (s.map (·.1)).Nodup) (ha : EvV X a σ H (.ref t)) (hb : EvV X b σ H (.ref u)) (ht : H t = some (.dK (kvS s))) (h2 : H u = some (.dK (kvS s))) (hm : behindInMarks .Eq b = false := by rfl) : EvD X (.Compare a [.Eq] [b] pos) σ H (.bool true) := fun H1 E tk Q q =>
  PE.b (pe_cmpR or_b pe_b pe_b hm) (ha H1 E tk _ fun x G H2 f p => hb.mono f.g H2 f.g2 f.tok _ fun y G2 H3 f2 r => by
    subst p
    subst r
    exact OpR.b (op_eq_dictA hu) ⟨t, u, kvS s, kvS s, rfl, rfl, f2.g2.keep _ _ (f2.g.keep _ _ (f.g.keep _ _ ht rfl) rfl) rfl, f2.g2.keep _ _ (f2.g.keep _ _ (f.g.keep _ _ h2 rfl) rfl) rfl, rfl, rows_dict hn, q _ G2 H3 (f.trans f2) (.bl true)⟩)
end
theorem take_put {s : Sto} (hn : (s.map (·.1)).Nodup) {j : Nat} {k : Str} {n : Int} (h : s[j]? = some (k, n)) : putS (s.take j) k n = s.take (j + 1) := by
  have hj := (List.getElem?_eq_some_iff.mp h).1
  have tk : s.take (j + 1) = s.take j ++ [(k, n)] := by rw [List.take_add_one, h]; rfl
  have nk : valS (s.take j) k = none := by
    cases e : valS (s.take j) k with
    | none => rfl
    | some i =>
      exfalso
      have hm : k ∈ (s.take j).map (·.1) := by
        unfold valS at e
        cases q : (s.take j).find? (fun p => decide (p.1 = k)) with
        | none => rw [q] at e; cases e
        | some p =>
          have h1 := List.find?_some q
          have h2 := List.mem_of_find?_eq_some q
          exact List.mem_map.mpr ⟨p, h2, of_decide_eq_true h1⟩
      have : (s.map (·.1)) = (s.take j).map (·.1) ++ (s.drop j).map (·.1) := by rw [← List.map_append, List.take_append_drop]
      rw [this] at hn
      have hd : k ∈ (s.drop j).map (·.1) := List.mem_map.mpr ⟨(k, n), by
        refine List.mem_of_getElem? (i := 0) ?_
        rw [List.getElem?_drop]; exact h, rfl⟩
      exact (List.nodup_append.mp hn).2.2 _ hm _ hd rfl
  rw [tk]
  unfold putS
  rw [nk]
  rfl
theorem put_nd {s : Sto} (hn : (s.map (·.1)).Nodup) (k : Str) (v : Int) : ((putS s k v).map (·.1)).Nodup := by
  unfold putS
  split
  · rw [List.map_map]
    have : ((fun x : Str × Int => x.1) ∘ fun p => if p.1 = k then (p.1, v) else p) = (·.1) := by
      funext p
      show (if p.1 = k then (p.1, v) else p).1 = p.1
      split <;> rfl
    rw [this]; exact hn
  · rename_i h
    rw [List.map_append]
    have nk : ¬ k ∈ s.map (·.1) := fun z => by
      obtain ⟨i, e⟩ := valS_mem z
      exact h (by rw [e]; rfl)
    refine List.nodup_append.mpr ⟨hn, by simp, fun a ha b hb => ?_⟩
    simp at hb
    subst hb
    exact fun z => nk (by rw [← z]; exact ha)
theorem drop_nd {s : Sto} (hn : (s.map (·.1)).Nodup) (k : Str) : ((dropS s k).map (·.1)).Nodup := (List.filter_sublist.map _).nodup hn
theorem put_mem {s : Sto} {k : Str} {v : Int} {P : Str → Prop} (h : ∀ z ∈ s.map (·.1), P z) (hk : P k) : ∀ z ∈ (putS s k v).map (·.1), P z := by
  intro z hz
  unfold putS at hz
  split at hz
  · rw [List.map_map] at hz
    obtain ⟨p, hp, rfl⟩ := List.mem_map.mp hz
    refine h _ (List.mem_map.mpr ⟨p, hp, ?_⟩)
    show p.1 = (if p.1 = k then (p.1, v) else p).1
    split <;> rfl
  · rw [List.map_append] at hz
    rcases List.mem_append.mp hz with hz | hz
    · exact h _ hz
    · simp at hz; subst hz; exact hk
theorem step_nd {s : Sto} (hn : (s.map (·.1)).Nodup) (x : Deed) : ((stepS s x).1.map (·.1)).Nodup := by
  unfold stepS
  split
  · exact put_nd hn ..
  split
  · exact drop_nd hn ..
  split
  · exact put_nd hn ..
  split
  · exact put_nd hn ..
  · exact hn
theorem step_mem {s : Sto} {x : Deed} {P : Str → Prop} (h : ∀ z ∈ s.map (·.1), P z) (hk : P x.k) : ∀ z ∈ (stepS s x).1.map (·.1), P z := by
  unfold stepS
  split
  · exact put_mem h hk
  split
  · intro z hz
    obtain ⟨p, hp, rfl⟩ := List.mem_map.mp hz
    exact h _ (List.mem_map.mpr ⟨p, (List.mem_filter.mp hp).1, rfl⟩)
  split
  · exact put_mem h hk
  split
  · exact put_mem h hk
  · exact h
end C

namespace Pf
open PySem L2 C
def top (i : Nat) : Stmt := PySem.Challenge.pw_chainkeep_k02_one_deed.main.body.getD i (.Pass ⟨0, 0, 0, 0⟩)
abbrev s_done_by : Stmt := top 1
theorem sc_done_by : FnScope ["store", "deed", "after", "answer"] ["store", "deed"] (defScope s_done_by) := ⟨rfl, rfl, rfl, by decide +kernel, rfl, by decide +kernel, by decide +kernel⟩
abbrev s__do : Stmt := top 2
theorem sc__do : FnScope ["store", "deed", "word", "key", "value", "had"] ["store", "deed"] (defScope s__do) := ⟨rfl, rfl, rfl, by decide +kernel, rfl, by decide +kernel, by decide +kernel⟩
abbrev s__law_cell_at : Stmt := top 4
theorem sc__law_cell_at : FnScope ["_law_script", "_law_k"] ["_law_script", "_law_k"] (defScope s__law_cell_at) := ⟨rfl, rfl, rfl, by decide +kernel, rfl, by decide +kernel, by decide +kernel⟩
abbrev s__law_mixed : Stmt := top 5
theorem sc__law_mixed : FnScope ["_law_cell", "_law_k", "_law_number_here"] ["_law_cell", "_law_k"] (defScope s__law_mixed) := ⟨rfl, rfl, rfl, by decide +kernel, rfl, by decide +kernel, by decide +kernel⟩
abbrev s__law_whole : Stmt := top 6
theorem sc__law_whole : FnScope ["_law_found"] ["_law_found"] (defScope s__law_whole) := ⟨rfl, rfl, rfl, by decide +kernel, rfl, by decide +kernel, by decide +kernel⟩
abbrev s__law_number : Stmt := top 7
theorem sc__law_number : FnScope ["_law_number_here", "_law_way", "_law_more", "_law_great"] ["_law_number_here"] (defScope s__law_number) := ⟨rfl, rfl, rfl, by decide +kernel, rfl, by decide +kernel, by decide +kernel⟩
abbrev s__law_keys : Stmt := top 8
theorem sc__law_keys : FnScope ["_law_number_here", "_law_letters", "_law_size", "_law_word", "_law_at", "_law_other", "_law_k"] ["_law_number_here"] (defScope s__law_keys) := ⟨rfl, rfl, rfl, by decide +kernel, rfl, by decide +kernel, by decide +kernel⟩
abbrev s__law_store : Stmt := top 9
theorem sc__law_store : FnScope ["_law_script", "_law_keys_here", "_law_store_here", "_law_k", "_law_cell"] ["_law_script", "_law_keys_here"] (defScope s__law_store) := ⟨rfl, rfl, rfl, by decide +kernel, rfl, by decide +kernel, by decide +kernel⟩
abbrev s__law_same : Stmt := top 10
theorem sc__law_same : FnScope ["_law_found", "_law_due_here", "_law_key"] ["_law_found", "_law_due_here"] (defScope s__law_same) := ⟨rfl, rfl, rfl, by decide +kernel, rfl, by decide +kernel, by decide +kernel⟩
abbrev s__law_answer_same : Stmt := top 11
theorem sc__law_answer_same : FnScope ["_law_found", "_law_due_here"] ["_law_found", "_law_due_here"] (defScope s__law_answer_same) := ⟨rfl, rfl, rfl, by decide +kernel, rfl, by decide +kernel, by decide +kernel⟩
abbrev s__law_due : Stmt := top 12
theorem sc__law_due : FnScope ["_law_store_here", "_law_word", "_law_key", "_law_value", "_law_due_here", "_law_one", "_law_ahead"] ["_law_store_here", "_law_word", "_law_key", "_law_value"] (defScope s__law_due) := ⟨rfl, rfl, rfl, by decide +kernel, rfl, by decide +kernel, by decide +kernel⟩
abbrev s_law : Stmt := top 13
theorem sc_law : FnScope ["_law_script", "_law_keys_here", "_law_store_here", "_law_number_here", "_law_word", "_law_key", "_law_value", "_law_deed", "_law_held", "_law_found", "_law_due_here"] ["_law_script"] (defScope s_law) := ⟨rfl, rfl, rfl, by decide +kernel, rfl, by decide +kernel, by decide +kernel⟩
structure MF (K : PySem.W.Frag) (mg : Str → Option Value) where
  a_done_by : Addr
  d_done_by : FuncData
  F_done_by : Fun K "done_by" "done_by" s_done_by a_done_by d_done_by
  b_done_by : Binds K d_done_by ["store", "deed"] []
  m_done_by : mg "done_by" = some (.ref a_done_by)
  a__do : Addr
  d__do : FuncData
  F__do : Fun K "_do" "_do" s__do a__do d__do
  b__do : Binds K d__do ["store", "deed"] []
  m__do : mg "_do" = some (.ref a__do)
  a__law_cell_at : Addr
  d__law_cell_at : FuncData
  F__law_cell_at : Fun K "_law_cell_at" "_law_cell_at" s__law_cell_at a__law_cell_at d__law_cell_at
  b__law_cell_at : Binds K d__law_cell_at ["_law_script", "_law_k"] []
  m__law_cell_at : mg "_law_cell_at" = some (.ref a__law_cell_at)
  a__law_mixed : Addr
  d__law_mixed : FuncData
  F__law_mixed : Fun K "_law_mixed" "_law_mixed" s__law_mixed a__law_mixed d__law_mixed
  b__law_mixed : Binds K d__law_mixed ["_law_cell", "_law_k"] []
  m__law_mixed : mg "_law_mixed" = some (.ref a__law_mixed)
  a__law_whole : Addr
  d__law_whole : FuncData
  F__law_whole : Fun K "_law_whole" "_law_whole" s__law_whole a__law_whole d__law_whole
  b__law_whole : Binds K d__law_whole ["_law_found"] []
  m__law_whole : mg "_law_whole" = some (.ref a__law_whole)
  a__law_number : Addr
  d__law_number : FuncData
  F__law_number : Fun K "_law_number" "_law_number" s__law_number a__law_number d__law_number
  b__law_number : Binds K d__law_number ["_law_number_here"] []
  m__law_number : mg "_law_number" = some (.ref a__law_number)
  a__law_keys : Addr
  d__law_keys : FuncData
  F__law_keys : Fun K "_law_keys" "_law_keys" s__law_keys a__law_keys d__law_keys
  b__law_keys : Binds K d__law_keys ["_law_number_here"] []
  m__law_keys : mg "_law_keys" = some (.ref a__law_keys)
  a__law_store : Addr
  d__law_store : FuncData
  F__law_store : Fun K "_law_store" "_law_store" s__law_store a__law_store d__law_store
  b__law_store : Binds K d__law_store ["_law_script", "_law_keys_here"] []
  m__law_store : mg "_law_store" = some (.ref a__law_store)
  a__law_same : Addr
  d__law_same : FuncData
  F__law_same : Fun K "_law_same" "_law_same" s__law_same a__law_same d__law_same
  b__law_same : Binds K d__law_same ["_law_found", "_law_due_here"] []
  m__law_same : mg "_law_same" = some (.ref a__law_same)
  a__law_answer_same : Addr
  d__law_answer_same : FuncData
  F__law_answer_same : Fun K "_law_answer_same" "_law_answer_same" s__law_answer_same a__law_answer_same d__law_answer_same
  b__law_answer_same : Binds K d__law_answer_same ["_law_found", "_law_due_here"] []
  m__law_answer_same : mg "_law_answer_same" = some (.ref a__law_answer_same)
  a__law_due : Addr
  d__law_due : FuncData
  F__law_due : Fun K "_law_due" "_law_due" s__law_due a__law_due d__law_due
  b__law_due : Binds K d__law_due ["_law_store_here", "_law_word", "_law_key", "_law_value"] []
  m__law_due : mg "_law_due" = some (.ref a__law_due)
  a_law : Addr
  d_law : FuncData
  F_law : Fun K "law" "law" s_law a_law d_law
  b_law : Binds K d_law ["_law_script"] []
  m_law : mg "law" = some (.ref a_law)
  s_law : ∀ (s : Shared) (u : Value), BindsTo s d_law ⟨[u], []⟩ [("_law_script", u)]
  z_dict : mg "dict" = none
  z_len : mg "len" = none
  z_isinstance : mg "isinstance" = none
  z_int : mg "int" = none
  z_bool : mg "bool" = none
  z_range : mg "range" = none
  z_sorted : mg "sorted" = none
  z_tuple : mg "tuple" = none
def all_mk {K : PySem.W.Frag} {h : Heap} {mg : Str → Option Value} (X : K.In h) (G : h.Ns mainGlobals mg)
    {f_done_by : Addr} {od_done_by an_done_by : Option Addr} {sl_done_by : Array (Option Value)} {oc_done_by kV_done_by dc_done_by pm_done_by ct_done_by : Value} {cd_done_by : Value}
    {f__do : Addr} {od__do an__do : Option Addr} {sl__do : Array (Option Value)} {oc__do kV__do dc__do pm__do ct__do : Value} {cd__do : Value}
    {f__law_cell_at : Addr} {od__law_cell_at an__law_cell_at : Option Addr} {sl__law_cell_at : Array (Option Value)} {oc__law_cell_at kV__law_cell_at dc__law_cell_at pm__law_cell_at ct__law_cell_at : Value} {cd__law_cell_at : Value}
    {f__law_mixed : Addr} {od__law_mixed an__law_mixed : Option Addr} {sl__law_mixed : Array (Option Value)} {oc__law_mixed kV__law_mixed dc__law_mixed pm__law_mixed ct__law_mixed : Value} {cd__law_mixed : Value}
    {f__law_whole : Addr} {od__law_whole an__law_whole : Option Addr} {sl__law_whole : Array (Option Value)} {oc__law_whole kV__law_whole dc__law_whole pm__law_whole ct__law_whole : Value} {cd__law_whole : Value}
    {f__law_number : Addr} {od__law_number an__law_number : Option Addr} {sl__law_number : Array (Option Value)} {oc__law_number kV__law_number dc__law_number pm__law_number ct__law_number : Value} {cd__law_number : Value}
    {f__law_keys : Addr} {od__law_keys an__law_keys : Option Addr} {sl__law_keys : Array (Option Value)} {oc__law_keys kV__law_keys dc__law_keys pm__law_keys ct__law_keys : Value} {cd__law_keys : Value}
    {f__law_store : Addr} {od__law_store an__law_store : Option Addr} {sl__law_store : Array (Option Value)} {oc__law_store kV__law_store dc__law_store pm__law_store ct__law_store : Value} {cd__law_store : Value}
    {f__law_same : Addr} {od__law_same an__law_same : Option Addr} {sl__law_same : Array (Option Value)} {oc__law_same kV__law_same dc__law_same pm__law_same ct__law_same : Value} {cd__law_same : Value}
    {f__law_answer_same : Addr} {od__law_answer_same an__law_answer_same : Option Addr} {sl__law_answer_same : Array (Option Value)} {oc__law_answer_same kV__law_answer_same dc__law_answer_same pm__law_answer_same ct__law_answer_same : Value} {cd__law_answer_same : Value}
    {f__law_due : Addr} {od__law_due an__law_due : Option Addr} {sl__law_due : Array (Option Value)} {oc__law_due kV__law_due dc__law_due pm__law_due ct__law_due : Value} {cd__law_due : Value}
    {f_law : Addr} {od_law an_law : Option Addr} {sl_law : Array (Option Value)} {oc_law kV_law dc_law pm_law ct_law : Value} {cd_law : Value}
    (a_done_by : PySem.W.nsIn K mainGlobals "done_by" = some (some (.ref f_done_by)))
    (l_done_by : K.lookup f_done_by = some ⟨oc_done_by, od_done_by, .func (PySem.W.fnOf "done_by" "done_by" (defArgs s_done_by) (defBody s_done_by) (defScope s_done_by) .none kV_done_by dc_done_by pm_done_by an_done_by (cd_done_by) ct_done_by), sl_done_by⟩)
    (c_done_by : PySem.W.codeIn K (cd_done_by) "done_by" = true)
    (k_done_by : PySem.W.keepIn K (.ref f_done_by) = true)
    (a__do : PySem.W.nsIn K mainGlobals "_do" = some (some (.ref f__do)))
    (l__do : K.lookup f__do = some ⟨oc__do, od__do, .func (PySem.W.fnOf "_do" "_do" (defArgs s__do) (defBody s__do) (defScope s__do) .none kV__do dc__do pm__do an__do (cd__do) ct__do), sl__do⟩)
    (c__do : PySem.W.codeIn K (cd__do) "_do" = true)
    (k__do : PySem.W.keepIn K (.ref f__do) = true)
    (a__law_cell_at : PySem.W.nsIn K mainGlobals "_law_cell_at" = some (some (.ref f__law_cell_at)))
    (l__law_cell_at : K.lookup f__law_cell_at = some ⟨oc__law_cell_at, od__law_cell_at, .func (PySem.W.fnOf "_law_cell_at" "_law_cell_at" (defArgs s__law_cell_at) (defBody s__law_cell_at) (defScope s__law_cell_at) .none kV__law_cell_at dc__law_cell_at pm__law_cell_at an__law_cell_at (cd__law_cell_at) ct__law_cell_at), sl__law_cell_at⟩)
    (c__law_cell_at : PySem.W.codeIn K (cd__law_cell_at) "_law_cell_at" = true)
    (k__law_cell_at : PySem.W.keepIn K (.ref f__law_cell_at) = true)
    (a__law_mixed : PySem.W.nsIn K mainGlobals "_law_mixed" = some (some (.ref f__law_mixed)))
    (l__law_mixed : K.lookup f__law_mixed = some ⟨oc__law_mixed, od__law_mixed, .func (PySem.W.fnOf "_law_mixed" "_law_mixed" (defArgs s__law_mixed) (defBody s__law_mixed) (defScope s__law_mixed) .none kV__law_mixed dc__law_mixed pm__law_mixed an__law_mixed (cd__law_mixed) ct__law_mixed), sl__law_mixed⟩)
    (c__law_mixed : PySem.W.codeIn K (cd__law_mixed) "_law_mixed" = true)
    (k__law_mixed : PySem.W.keepIn K (.ref f__law_mixed) = true)
    (a__law_whole : PySem.W.nsIn K mainGlobals "_law_whole" = some (some (.ref f__law_whole)))
    (l__law_whole : K.lookup f__law_whole = some ⟨oc__law_whole, od__law_whole, .func (PySem.W.fnOf "_law_whole" "_law_whole" (defArgs s__law_whole) (defBody s__law_whole) (defScope s__law_whole) .none kV__law_whole dc__law_whole pm__law_whole an__law_whole (cd__law_whole) ct__law_whole), sl__law_whole⟩)
    (c__law_whole : PySem.W.codeIn K (cd__law_whole) "_law_whole" = true)
    (k__law_whole : PySem.W.keepIn K (.ref f__law_whole) = true)
    (a__law_number : PySem.W.nsIn K mainGlobals "_law_number" = some (some (.ref f__law_number)))
    (l__law_number : K.lookup f__law_number = some ⟨oc__law_number, od__law_number, .func (PySem.W.fnOf "_law_number" "_law_number" (defArgs s__law_number) (defBody s__law_number) (defScope s__law_number) .none kV__law_number dc__law_number pm__law_number an__law_number (cd__law_number) ct__law_number), sl__law_number⟩)
    (c__law_number : PySem.W.codeIn K (cd__law_number) "_law_number" = true)
    (k__law_number : PySem.W.keepIn K (.ref f__law_number) = true)
    (a__law_keys : PySem.W.nsIn K mainGlobals "_law_keys" = some (some (.ref f__law_keys)))
    (l__law_keys : K.lookup f__law_keys = some ⟨oc__law_keys, od__law_keys, .func (PySem.W.fnOf "_law_keys" "_law_keys" (defArgs s__law_keys) (defBody s__law_keys) (defScope s__law_keys) .none kV__law_keys dc__law_keys pm__law_keys an__law_keys (cd__law_keys) ct__law_keys), sl__law_keys⟩)
    (c__law_keys : PySem.W.codeIn K (cd__law_keys) "_law_keys" = true)
    (k__law_keys : PySem.W.keepIn K (.ref f__law_keys) = true)
    (a__law_store : PySem.W.nsIn K mainGlobals "_law_store" = some (some (.ref f__law_store)))
    (l__law_store : K.lookup f__law_store = some ⟨oc__law_store, od__law_store, .func (PySem.W.fnOf "_law_store" "_law_store" (defArgs s__law_store) (defBody s__law_store) (defScope s__law_store) .none kV__law_store dc__law_store pm__law_store an__law_store (cd__law_store) ct__law_store), sl__law_store⟩)
    (c__law_store : PySem.W.codeIn K (cd__law_store) "_law_store" = true)
    (k__law_store : PySem.W.keepIn K (.ref f__law_store) = true)
    (a__law_same : PySem.W.nsIn K mainGlobals "_law_same" = some (some (.ref f__law_same)))
    (l__law_same : K.lookup f__law_same = some ⟨oc__law_same, od__law_same, .func (PySem.W.fnOf "_law_same" "_law_same" (defArgs s__law_same) (defBody s__law_same) (defScope s__law_same) .none kV__law_same dc__law_same pm__law_same an__law_same (cd__law_same) ct__law_same), sl__law_same⟩)
    (c__law_same : PySem.W.codeIn K (cd__law_same) "_law_same" = true)
    (k__law_same : PySem.W.keepIn K (.ref f__law_same) = true)
    (a__law_answer_same : PySem.W.nsIn K mainGlobals "_law_answer_same" = some (some (.ref f__law_answer_same)))
    (l__law_answer_same : K.lookup f__law_answer_same = some ⟨oc__law_answer_same, od__law_answer_same, .func (PySem.W.fnOf "_law_answer_same" "_law_answer_same" (defArgs s__law_answer_same) (defBody s__law_answer_same) (defScope s__law_answer_same) .none kV__law_answer_same dc__law_answer_same pm__law_answer_same an__law_answer_same (cd__law_answer_same) ct__law_answer_same), sl__law_answer_same⟩)
    (c__law_answer_same : PySem.W.codeIn K (cd__law_answer_same) "_law_answer_same" = true)
    (k__law_answer_same : PySem.W.keepIn K (.ref f__law_answer_same) = true)
    (a__law_due : PySem.W.nsIn K mainGlobals "_law_due" = some (some (.ref f__law_due)))
    (l__law_due : K.lookup f__law_due = some ⟨oc__law_due, od__law_due, .func (PySem.W.fnOf "_law_due" "_law_due" (defArgs s__law_due) (defBody s__law_due) (defScope s__law_due) .none kV__law_due dc__law_due pm__law_due an__law_due (cd__law_due) ct__law_due), sl__law_due⟩)
    (c__law_due : PySem.W.codeIn K (cd__law_due) "_law_due" = true)
    (k__law_due : PySem.W.keepIn K (.ref f__law_due) = true)
    (a_law : PySem.W.nsIn K mainGlobals "law" = some (some (.ref f_law)))
    (l_law : K.lookup f_law = some ⟨oc_law, od_law, .func (PySem.W.fnOf "law" "law" (defArgs s_law) (defBody s_law) (defScope s_law) .none kV_law dc_law pm_law an_law (cd_law) ct_law), sl_law⟩)
    (c_law : PySem.W.codeIn K (cd_law) "law" = true)
    (k_law : PySem.W.keepIn K (.ref f_law) = true)
    (z_dict : PySem.W.nsIn K mainGlobals "dict" = some none)
    (z_len : PySem.W.nsIn K mainGlobals "len" = some none)
    (z_isinstance : PySem.W.nsIn K mainGlobals "isinstance" = some none)
    (z_int : PySem.W.nsIn K mainGlobals "int" = some none)
    (z_bool : PySem.W.nsIn K mainGlobals "bool" = some none)
    (z_range : PySem.W.nsIn K mainGlobals "range" = some none)
    (z_sorted : PySem.W.nsIn K mainGlobals "sorted" = some none)
    (z_tuple : PySem.W.nsIn K mainGlobals "tuple" = some none) : MF K mg :=
  have F_done_by := fun_mk (st := s_done_by) l_done_by c_done_by k_done_by
  have F__do := fun_mk (st := s__do) l__do c__do k__do
  have F__law_cell_at := fun_mk (st := s__law_cell_at) l__law_cell_at c__law_cell_at k__law_cell_at
  have F__law_mixed := fun_mk (st := s__law_mixed) l__law_mixed c__law_mixed k__law_mixed
  have F__law_whole := fun_mk (st := s__law_whole) l__law_whole c__law_whole k__law_whole
  have F__law_number := fun_mk (st := s__law_number) l__law_number c__law_number k__law_number
  have F__law_keys := fun_mk (st := s__law_keys) l__law_keys c__law_keys k__law_keys
  have F__law_store := fun_mk (st := s__law_store) l__law_store c__law_store k__law_store
  have F__law_same := fun_mk (st := s__law_same) l__law_same c__law_same k__law_same
  have F__law_answer_same := fun_mk (st := s__law_answer_same) l__law_answer_same c__law_answer_same k__law_answer_same
  have F__law_due := fun_mk (st := s__law_due) l__law_due c__law_due k__law_due
  have F_law := fun_mk (st := s_law) l_law c_law k_law
  { a_done_by := f_done_by
    d_done_by := (PySem.W.fnOf "done_by" "done_by" (defArgs s_done_by) (defBody s_done_by) (defScope s_done_by) .none kV_done_by dc_done_by pm_done_by an_done_by (cd_done_by) ct_done_by)
    F_done_by := F_done_by
    b_done_by := F_done_by.binds (ps := ["store", "deed"]) fun _ _ _ _ _ _ us hl => match us, hl with | [_, _], _ => rfl
    m_done_by := PySem.W.mg_of X G a_done_by
    a__do := f__do
    d__do := (PySem.W.fnOf "_do" "_do" (defArgs s__do) (defBody s__do) (defScope s__do) .none kV__do dc__do pm__do an__do (cd__do) ct__do)
    F__do := F__do
    b__do := F__do.binds (ps := ["store", "deed"]) fun _ _ _ _ _ _ us hl => match us, hl with | [_, _], _ => rfl
    m__do := PySem.W.mg_of X G a__do
    a__law_cell_at := f__law_cell_at
    d__law_cell_at := (PySem.W.fnOf "_law_cell_at" "_law_cell_at" (defArgs s__law_cell_at) (defBody s__law_cell_at) (defScope s__law_cell_at) .none kV__law_cell_at dc__law_cell_at pm__law_cell_at an__law_cell_at (cd__law_cell_at) ct__law_cell_at)
    F__law_cell_at := F__law_cell_at
    b__law_cell_at := F__law_cell_at.binds (ps := ["_law_script", "_law_k"]) fun _ _ _ _ _ _ us hl => match us, hl with | [_, _], _ => rfl
    m__law_cell_at := PySem.W.mg_of X G a__law_cell_at
    a__law_mixed := f__law_mixed
    d__law_mixed := (PySem.W.fnOf "_law_mixed" "_law_mixed" (defArgs s__law_mixed) (defBody s__law_mixed) (defScope s__law_mixed) .none kV__law_mixed dc__law_mixed pm__law_mixed an__law_mixed (cd__law_mixed) ct__law_mixed)
    F__law_mixed := F__law_mixed
    b__law_mixed := F__law_mixed.binds (ps := ["_law_cell", "_law_k"]) fun _ _ _ _ _ _ us hl => match us, hl with | [_, _], _ => rfl
    m__law_mixed := PySem.W.mg_of X G a__law_mixed
    a__law_whole := f__law_whole
    d__law_whole := (PySem.W.fnOf "_law_whole" "_law_whole" (defArgs s__law_whole) (defBody s__law_whole) (defScope s__law_whole) .none kV__law_whole dc__law_whole pm__law_whole an__law_whole (cd__law_whole) ct__law_whole)
    F__law_whole := F__law_whole
    b__law_whole := F__law_whole.binds (ps := ["_law_found"]) fun _ _ _ _ _ _ us hl => match us, hl with | [_], _ => rfl
    m__law_whole := PySem.W.mg_of X G a__law_whole
    a__law_number := f__law_number
    d__law_number := (PySem.W.fnOf "_law_number" "_law_number" (defArgs s__law_number) (defBody s__law_number) (defScope s__law_number) .none kV__law_number dc__law_number pm__law_number an__law_number (cd__law_number) ct__law_number)
    F__law_number := F__law_number
    b__law_number := F__law_number.binds (ps := ["_law_number_here"]) fun _ _ _ _ _ _ us hl => match us, hl with | [_], _ => rfl
    m__law_number := PySem.W.mg_of X G a__law_number
    a__law_keys := f__law_keys
    d__law_keys := (PySem.W.fnOf "_law_keys" "_law_keys" (defArgs s__law_keys) (defBody s__law_keys) (defScope s__law_keys) .none kV__law_keys dc__law_keys pm__law_keys an__law_keys (cd__law_keys) ct__law_keys)
    F__law_keys := F__law_keys
    b__law_keys := F__law_keys.binds (ps := ["_law_number_here"]) fun _ _ _ _ _ _ us hl => match us, hl with | [_], _ => rfl
    m__law_keys := PySem.W.mg_of X G a__law_keys
    a__law_store := f__law_store
    d__law_store := (PySem.W.fnOf "_law_store" "_law_store" (defArgs s__law_store) (defBody s__law_store) (defScope s__law_store) .none kV__law_store dc__law_store pm__law_store an__law_store (cd__law_store) ct__law_store)
    F__law_store := F__law_store
    b__law_store := F__law_store.binds (ps := ["_law_script", "_law_keys_here"]) fun _ _ _ _ _ _ us hl => match us, hl with | [_, _], _ => rfl
    m__law_store := PySem.W.mg_of X G a__law_store
    a__law_same := f__law_same
    d__law_same := (PySem.W.fnOf "_law_same" "_law_same" (defArgs s__law_same) (defBody s__law_same) (defScope s__law_same) .none kV__law_same dc__law_same pm__law_same an__law_same (cd__law_same) ct__law_same)
    F__law_same := F__law_same
    b__law_same := F__law_same.binds (ps := ["_law_found", "_law_due_here"]) fun _ _ _ _ _ _ us hl => match us, hl with | [_, _], _ => rfl
    m__law_same := PySem.W.mg_of X G a__law_same
    a__law_answer_same := f__law_answer_same
    d__law_answer_same := (PySem.W.fnOf "_law_answer_same" "_law_answer_same" (defArgs s__law_answer_same) (defBody s__law_answer_same) (defScope s__law_answer_same) .none kV__law_answer_same dc__law_answer_same pm__law_answer_same an__law_answer_same (cd__law_answer_same) ct__law_answer_same)
    F__law_answer_same := F__law_answer_same
    b__law_answer_same := F__law_answer_same.binds (ps := ["_law_found", "_law_due_here"]) fun _ _ _ _ _ _ us hl => match us, hl with | [_, _], _ => rfl
    m__law_answer_same := PySem.W.mg_of X G a__law_answer_same
    a__law_due := f__law_due
    d__law_due := (PySem.W.fnOf "_law_due" "_law_due" (defArgs s__law_due) (defBody s__law_due) (defScope s__law_due) .none kV__law_due dc__law_due pm__law_due an__law_due (cd__law_due) ct__law_due)
    F__law_due := F__law_due
    b__law_due := F__law_due.binds (ps := ["_law_store_here", "_law_word", "_law_key", "_law_value"]) fun _ _ _ _ _ _ us hl => match us, hl with | [_, _, _, _], _ => rfl
    m__law_due := PySem.W.mg_of X G a__law_due
    a_law := f_law
    d_law := (PySem.W.fnOf "law" "law" (defArgs s_law) (defBody s_law) (defScope s_law) .none kV_law dc_law pm_law an_law (cd_law) ct_law)
    F_law := F_law
    b_law := F_law.binds (ps := ["_law_script"]) fun _ _ _ _ _ _ us hl => match us, hl with | [_], _ => rfl
    m_law := PySem.W.mg_of X G a_law
    s_law := fun s v => .of_eq rfl
    z_dict := PySem.W.mg_none_of X G z_dict
    z_len := PySem.W.mg_none_of X G z_len
    z_isinstance := PySem.W.mg_none_of X G z_isinstance
    z_int := PySem.W.mg_none_of X G z_int
    z_bool := PySem.W.mg_none_of X G z_bool
    z_range := PySem.W.mg_none_of X G z_range
    z_sorted := PySem.W.mg_none_of X G z_sorted
    z_tuple := PySem.W.mg_none_of X G z_tuple }
end Pf

namespace Pf
open PySem L2 C
/-! ### words of this text: «dp» closes what data is, «xv» walks an expression, «xt» a test -/
local macro_rules | `(tactic| walk_at "dp5") => `(tactic| assumption)
local macro_rules | `(tactic| walk_at "dp4") => `(tactic| first
  | assumption
  | (refine Ext.dp (Fr.g (by assumption)) ?_; walk_at "dp5")
  | (refine Ext.dp (by assumption) ?_; walk_at "dp5"))
local macro_rules | `(tactic| walk_at "dp3") => `(tactic| first
  | assumption
  | (refine Ext.dp (Fr.g (by assumption)) ?_; walk_at "dp4")
  | (refine Ext.dp (by assumption) ?_; walk_at "dp4"))
local macro_rules | `(tactic| walk_at "dp2") => `(tactic| first
  | assumption
  | (refine Ext.dp (Fr.g (by assumption)) ?_; walk_at "dp3")
  | (refine Ext.dp (by assumption) ?_; walk_at "dp3"))
local macro_rules | `(tactic| walk_at "dp1") => `(tactic| first
  | assumption
  | (refine Ext.dp (Fr.g (by assumption)) ?_; walk_at "dp2")
  | (refine Ext.dp (by assumption) ?_; walk_at "dp2"))
local macro_rules | `(tactic| walk_at "dp") => `(tactic| first
  | assumption
  | exact Dp.int _ | exact Dp.str _ | exact Dp.bl _ | exact Dp.non
  | (refine Ext.dp (Fr.g (by assumption)) ?_; walk_at "dp1")
  | (refine Ext.dp (by assumption) ?_; walk_at "dp1"))
local macro_rules | `(tactic| walk_at "side") => `(tactic| first | assumption | decide | omega | (simp only [List.length_cons, List.length_nil]; omega) | (simp only [Int.natAbs]; omega))
local macro_rules | `(tactic| walk_at "xv") => `(tactic| first
  | ((with_reducible show EvD _ (Expr.Name _ _) _ _ _); walk_at "nm")
  | ((with_reducible show EvD _ (Expr.Constant _ _ _) _ _ _); first | exact ev_int | exact ev_str | exact ev_bl | exact ev_non)
  | ((with_reducible show EvD _ (Expr.BinOp _ .Add _ _) _ _ _); first | (apply ev_add; walk_at "xv"; walk_at "xv") | (apply ev_catS; walk_at "xv"; walk_at "xv"; walk_at "side"))
  | ((with_reducible show EvD _ (Expr.BinOp _ .Sub _ _) _ _ _); apply ev_sub; walk_at "xv"; walk_at "xv")
  | ((with_reducible show EvD _ (Expr.BinOp _ .Mod _ _) _ _ _); apply ev_mod; walk_at "xv"; walk_at "xv"; walk_at "side")
  | ((with_reducible show EvD _ (Expr.BinOp _ .FloorDiv _ _) _ _ _); apply ev_div; walk_at "xv"; walk_at "xv"; walk_at "side")
  | ((with_reducible show EvD _ (Expr.BinOp _ .Mult _ _) _ _ _); first | (apply ev_mulR; walk_at "xv"; walk_at "xv"; walk_at "side") | (apply ev_mulL; walk_at "xv"; walk_at "xv"; walk_at "side"))
  | ((with_reducible show EvD _ (Expr.Tuple _ _ _) _ _ _); apply ev_tup; walk_at "xa"; walk_at "side")
  | ((with_reducible show EvD _ (Expr.List _ _) _ _ _); apply ev_lst; walk_at "xa"; walk_at "side")
  | walk_at "xown")
local macro_rules | `(tactic| walk_at "xa") => `(tactic| first | exact ea_nil | (refine' ea_cons ?xa ?xb; (case xa => walk_at "xv"); (case xb => walk_at "xa")))
local macro_rules | `(tactic| walk_at "xt") => `(tactic| first
  | ((with_reducible show EvT _ (Expr.Compare _ [.Lt] _ _) _ _ _); refine' et_lt ?xa ?xb; (case xa => walk_at "xv"); (case xb => walk_at "xv"))
  | ((with_reducible show EvT _ (Expr.Compare _ [.LtE] _ _) _ _ _); refine' et_le ?xa ?xb; (case xa => walk_at "xv"); (case xb => walk_at "xv"))
  | ((with_reducible show EvT _ (Expr.Compare _ [.Gt] _ _) _ _ _); refine' et_gt ?xa ?xb; (case xa => walk_at "xv"); (case xb => walk_at "xv"))
  | ((with_reducible show EvT _ (Expr.Compare _ [.GtE] _ _) _ _ _); refine' et_ge ?xa ?xb; (case xa => walk_at "xv"); (case xb => walk_at "xv"))
  | ((with_reducible show EvT _ (Expr.Compare _ [.Eq] _ _) _ _ _); first | (refine' et_eqI ?xa ?xb; (case xa => walk_at "xv"); (case xb => walk_at "xv")) | (refine' et_eqS ?xa ?xb; (case xa => walk_at "xv"); (case xb => walk_at "xv")))
  | ((with_reducible show EvT _ (Expr.Compare _ [.NotEq] _ _) _ _ _); first | (refine' et_neI ?xa ?xb; (case xa => walk_at "xv"); (case xb => walk_at "xv")) | (refine' et_neS ?xa ?xb; (case xa => walk_at "xv"); (case xb => walk_at "xv")))
  | ((with_reducible show EvT _ (Expr.Compare _ [.Is] _ _) _ _ _); refine' et_isN ?xa ?xb; (case xa => walk_at "xv"); (case xb => walk_at "xv"))
  | ((with_reducible show EvT _ (Expr.Compare _ [.IsNot] _ _) _ _ _); refine' et_notN ?xa ?xb; (case xa => walk_at "xv"); (case xb => walk_at "xv"))
  | ((with_reducible show EvT _ (Expr.UnaryOp .Not _ _) _ _ _); apply et_not; walk_at "xt"))
abbrev dInts (ns : List Int) : PyData := .list (ns.map PyData.int)
section
variable {P : Program} {w : World} {K : PySem.W.Frag} {mg : Str → Option Value} {base : Heap}
/-! cell_at -/
def Rcell (ds : List PyData) (d : PyData) : Prop := ∃ (ns : List Int) (k : Nat), ds = [dInts ns, .int k] ∧ d = .int (cellAt ns k)
local macro_rules | `(tactic| walk_at "nm") => `(tactic| first
  | ((with_reducible show EvD _ (Expr.Name "_law_script" _) _ _ _); refine' ev_name 0 ?r ?h; (case h => rfl); (case r => walk_at "dp"))
  | ((with_reducible show EvD _ (Expr.Name "_law_k" _) _ _ _); refine' ev_name 1 ?r ?h; (case h => rfl); (case r => walk_at "dp")))

theorem ok_cell (M : MF K mg) : FnOk P w K mg base CX0 1 M.a__law_cell_at M.d__law_cell_at ["_law_script", "_law_k"] (SpR K (fun _ => True) Rcell) := by
  refine M.F__law_cell_at.ok sc__law_cell_at (fun vs H Q E h => ?_) (fun cdv A outer s H vs Q E hr h => ?_)
  · obtain ⟨G, ds, d, _, _, r, _, ⟨ns, k, e, _⟩, _⟩ := h
    rw [all_len r, e]; rfl
  obtain ⟨G, ds, d, e0, t0, r, T, ⟨ns, k, rfl, rfl⟩, q⟩ := h
  obtain ⟨v1, v2, rfl, r1, r2⟩ := all2 r
  refine ⟨_, pss_b, ?_⟩
  have nd := sc__law_cell_at.nd
  refine bb_if0 (Hb := G) (et_lt (by walk_at "nm") (ev_lenL (by walk_at "nm") M.z_len)) e0 t0 (fun c H2 e1 e2 t2 => ?_) (fun c H2 e1 e2 t2 => ?_)
  · refine bb_ret (Hb := G) (ev_ixL (d := .int (cellAt ns k)) (by walk_at "nm") (by walk_at "nm") ?_) e1 t2 (fun v G2 H3 f r => q v G2 H3 (f.pre e2) r)
    have c' : k < ns.length := by have := of_decide_eq_true c; rw [List.length_map] at this; omega
    unfold cellAt
    exact atI_nat (by rw [List.getElem?_map, List.getElem?_eq_getElem c', List.getD_eq_getElem?_getD, List.getElem?_eq_getElem c']; rfl)
  · refine bb_ret (Hb := G) (d := .int (cellAt ns k)) ?_ e1 t2 (fun v G2 H3 f r => q v G2 H3 (f.pre e2) r)
    have c' : ¬ k < ns.length := by have := of_decide_eq_false c; rw [List.length_map] at this; omega
    unfold cellAt
    rw [List.getD_eq_getElem?_getD, List.getElem?_eq_none (by omega)]
    exact ev_int
/-! mixed -/
def Rmix (ds : List PyData) (d : PyData) : Prop := ∃ (c k : Int), ds = [.int c, .int k] ∧ d = .int (mixed c k)
local macro_rules | `(tactic| walk_at "nm") => `(tactic| first
  | ((with_reducible show EvD _ (Expr.Name "_law_cell" _) _ _ _); refine' ev_name 0 ?r ?h; (case h => rfl); (case r => walk_at "dp"))
  | ((with_reducible show EvD _ (Expr.Name "_law_k" _) _ _ _); refine' ev_name 1 ?r ?h; (case h => rfl); (case r => walk_at "dp"))
  | ((with_reducible show EvD _ (Expr.Name "_law_number_here" _) _ _ _); refine' ev_name 2 ?r ?h; (case h => rfl); (case r => walk_at "dp")))

theorem ok_mix (M : MF K mg) : FnOk P w K mg base CX0 1 M.a__law_mixed M.d__law_mixed ["_law_cell", "_law_k"] (SpR K (fun _ => True) Rmix) := by
  refine M.F__law_mixed.ok sc__law_mixed (fun vs H Q E h => ?_) (fun cdv A outer s H vs Q E hr h => ?_)
  · obtain ⟨G, ds, d, _, _, r, _, ⟨c, k, e, _⟩, _⟩ := h
    rw [all_len r, e]; rfl
  obtain ⟨G, ds, d, e0, t0, r, T, ⟨c, k, rfl, rfl⟩, q⟩ := h
  obtain ⟨v1, v2, rfl, r1, r2⟩ := all2 r
  refine ⟨_, pss_b, ?_⟩
  have nd := sc__law_mixed.nd
  have b1 := Int.emod_nonneg (c * 48271 + k * 7919 + 1) (show (1000003 : Int) ≠ 0 by decide)
  have b2 := Int.emod_lt_of_pos (c * 48271 + k * 7919 + 1) (show (0 : Int) < 1000003 by decide)
  refine bb_val 2 nd (Hb := G) (EvD.toInt (i := (c * 48271 + k * 7919 + 1) % 1000003) (by walk_at "xv")) e0 t0 (fun H2 e1 e2 t2 => ?_)
  exact bb_ret (Hb := G) (d := .int (mixed c k)) (ev_bin (ev_bin (by walk_at "xv") (by walk_at "xv") (opd_mulL (by omega))) (by walk_at "xv") (opd_mod (by decide))) e1 t2 (fun v G2 H3 f r => q v G2 H3 (f.pre e2) r)
end
section
variable {P : Program} {w : World} {K : PySem.W.Frag} {mg : Str → Option Value} {base : Heap}
/-! a number of any size -/
def Rnumber (ds : List PyData) (d : PyData) : Prop := ∃ n : Int, ds = [.int n] ∧ (0 ≤ n ∧ n < 1000000) ∧ d = .int (numberF n)
local macro_rules | `(tactic| walk_at "nm") => `(tactic| first
  | ((with_reducible show EvD _ (Expr.Name "_law_number_here" _) _ _ _); refine' ev_name 0 ?r ?h; (case h => rfl); (case r => walk_at "dp"))
  | ((with_reducible show EvD _ (Expr.Name "_law_way" _) _ _ _); refine' ev_name 1 ?r ?h; (case h => rfl); (case r => walk_at "dp"))
  | ((with_reducible show EvD _ (Expr.Name "_law_more" _) _ _ _); refine' ev_name 2 ?r ?h; (case h => rfl); (case r => walk_at "dp"))
  | ((with_reducible show EvD _ (Expr.Name "_law_great" _) _ _ _); refine' ev_name 3 ?r ?h; (case h => rfl); (case r => walk_at "dp")))

theorem ok_number (M : MF K mg) : FnOk P w K mg base CX0 1 M.a__law_number M.d__law_number ["_law_number_here"] (SpR K (fun _ => True) Rnumber) := by
  refine M.F__law_number.ok sc__law_number (fun vs H Q E h => ?_) (fun cdv A outer s H vs Q E hr h => ?_)
  · obtain ⟨G, ds, d, _, _, r, _, ⟨n, e, _⟩, _⟩ := h
    rw [all_len r, e]; rfl
  obtain ⟨G, ds, d, e0, t0, r, T, ⟨n, rfl, hn, rfl⟩, q⟩ := h
  obtain ⟨v1, rfl, r1⟩ := all1 r
  refine ⟨_, pss_b, ?_⟩
  have nd := sc__law_number.nd
  cases dp_int r1
  refine bb_val 1 nd (Hb := G) (EvD.toInt (i := n % 3) (by walk_at "xv")) e0 t0 (fun H2 e1 e2 t2 => ?_)
  refine bb_val 2 nd (Hb := G) (EvD.toInt (i := n / 3) (by walk_at "xv")) e1 t2 (fun H3 e3 e4 t4 => ?_)
  refine bb_if0 (Hb := G) (by walk_at "xt") e3 t4 (fun c H4 e5 e6 t6 => ?_) (fun c H4 e5 e6 t6 => ?_)
  · have c' : n % 3 = 0 := of_decide_eq_true c
    have i0 := Int.emod_nonneg (n / 3) (show (4 : Int) ≠ 0 by decide)
    have i1 := Int.emod_lt_of_pos (n / 3) (show (0 : Int) < 4 by decide)
    have hat : atI ((greats n).map PyData.int) (n / 3 % 4) = some (.int ((greats n).getD (n / 3 % 4).toNat 0)) := by
      obtain ⟨m, hm⟩ := Int.eq_ofNat_of_zero_le i0
      rw [hm] at i1 ⊢
      have hl : m < (greats n).length := by show m < 4; omega
      refine atI_nat ?_
      rw [List.getElem?_map, List.getElem?_eq_getElem hl, Int.toNat_natCast, List.getD_eq_getElem?_getD, List.getElem?_eq_getElem hl]
      rfl
    have h64 : n.natAbs < 2 ^ 64 := by omega
    refine bb_val 3 nd (Hb := G) (EvD.toInt (i := (greats n).getD (n / 3 % 4).toNat 0) (ev_ixL (ev_lst (ds := [.int n, .int (n ^ 2), .int (n ^ 4), .int (n ^ 9)]) (ea_cons (by walk_at "nm") (ea_cons (ev_pow (n := 2) (by walk_at "nm") ev_int h64 (by decide)) (ea_cons (ev_pow (n := 4) (by walk_at "nm") ev_int h64 (by decide)) (ea_cons (ev_pow (n := 9) (by walk_at "nm") ev_int h64 (by decide)) ea_nil)))) (by show 4 ≤ 100000; decide)) (by walk_at "xv") hat)) e5 t6 (fun H5 e7 e8 t8 => ?_)
    generalize hgr : (greats n).getD (n / 3 % 4).toNat 0 = gr
    have j0 := Int.emod_nonneg (n / 3 / 4) (show (2 : Int) ≠ 0 by decide)
    have j1 := Int.emod_lt_of_pos (n / 3 / 4) (show (0 : Int) < 2 by decide)
    refine bb_ret (Hb := G) (d := .int (numberF n)) (EvD.to (ev_mulR (by walk_at "nm") (by walk_at "xv") (by omega)) ?_) e7 t8 (fun v G2 H6 f r => q v G2 H6 (f.pre (((e2.trans e4).trans e6).trans e8)) r)
    unfold numberF
    rw [if_pos c', hgr]
  · have c' : ¬ n % 3 = 0 := of_decide_eq_false c
    refine bb_if0 (Hb := G) (by walk_at "xt") e5 t6 (fun c2 H5 e7 e8 t8 => ?_) (fun c2 H5 e7 e8 t8 => ?_)
    · have c3 : n % 3 = 1 := of_decide_eq_true c2
      refine bb_ret (Hb := G) (d := .int (numberF n)) (EvD.to (d := .int (n / 3 % 2000 - 1000)) (by walk_at "xv") ?_) e7 t8 (fun v G2 H6 f r => q v G2 H6 (f.pre (((e2.trans e4).trans e6).trans e8)) r)
      unfold numberF
      rw [if_neg c', if_pos c3]
    · have c3 : ¬ n % 3 = 1 := of_decide_eq_false c2
      refine bb_ret (Hb := G) (d := .int (numberF n)) (EvD.to (d := .int (n / 3 % 7 - 3)) (by walk_at "xv") ?_) e7 t8 (fun v G2 H6 f r => q v G2 H6 (f.pre (((e2.trans e4).trans e6).trans e8)) r)
      unfold numberF
      rw [if_neg c', if_neg c3]
end
section
variable {P : Program} {w : World} {K : PySem.W.Frag} {mg : Str → Option Value} {base : Heap}
/-! the keys -/
abbrev dStrs (zs : List Str) : PyData := .list (zs.map PyData.str)
def Rkeys (ds : List PyData) (d : PyData) : Prop := ∃ n : Int, ds = [.int n] ∧ d = dStrs (keysF n)
local macro_rules | `(tactic| walk_at "nm") => `(tactic| first
  | ((with_reducible show EvD _ (Expr.Name "_law_number_here" _) _ _ _); refine' ev_name 0 ?r ?h; (case h => rfl); (case r => walk_at "dp"))
  | ((with_reducible show EvD _ (Expr.Name "_law_letters" _) _ _ _); refine' ev_name 1 ?r ?h; (case h => rfl); (case r => walk_at "dp"))
  | ((with_reducible show EvD _ (Expr.Name "_law_size" _) _ _ _); refine' ev_name 2 ?r ?h; (case h => rfl); (case r => walk_at "dp"))
  | ((with_reducible show EvD _ (Expr.Name "_law_word" _) _ _ _); refine' ev_name 3 ?r ?h; (case h => rfl); (case r => walk_at "dp"))
  | ((with_reducible show EvD _ (Expr.Name "_law_at" _) _ _ _); refine' ev_name 4 ?r ?h; (case h => rfl); (case r => walk_at "dp"))
  | ((with_reducible show EvD _ (Expr.Name "_law_other" _) _ _ _); refine' ev_name 5 ?r ?h; (case h => rfl); (case r => walk_at "dp"))
  | ((with_reducible show EvD _ (Expr.Name "_law_k" _) _ _ _); refine' ev_name 6 ?r ?h; (case h => rfl); (case r => walk_at "dp")))

theorem ok_keys (M : MF K mg) : FnOk P w K mg base CX0 1 M.a__law_keys M.d__law_keys ["_law_number_here"] (SpR K (fun _ => True) Rkeys) := by
  refine M.F__law_keys.ok sc__law_keys (fun vs H Q E h => ?_) (fun cdv A outer s H vs Q E hr h => ?_)
  · obtain ⟨G, ds, d, _, _, r, _, ⟨n, e, _⟩, _⟩ := h
    rw [all_len r, e]; rfl
  obtain ⟨G, ds, d, e0, t0, r, T, ⟨n, rfl, rfl⟩, q⟩ := h
  obtain ⟨v1, rfl, r1⟩ := all1 r
  refine ⟨_, pss_b, ?_⟩
  have nd := sc__law_keys.nd
  cases dp_int r1
  have b0 := Int.emod_nonneg n (show (8 : Int) ≠ 0 by decide)
  have b1 := Int.emod_lt_of_pos n (show (0 : Int) < 8 by decide)
  have kl := keyW_len n
  have ka := keyA_lt n
  refine bb_val 1 nd (Hb := G) (EvD.toStr (i := abc) ev_str) e0 t0 (fun H2 e1 e2 t2 => ?_)
  refine bb_val 2 nd (Hb := G) (EvD.toInt (i := 1 + n % 8) (by walk_at "xv")) e1 t2 (fun H3 e3 e4 t4 => ?_)
  refine bb_val 3 nd (Hb := G) (EvD.toStr (i := S (keyW n)) (ev_join1 (ev_str (i := "")) (EvD.to (EvK.dat (ek_lcR (N := 1 + n % 8) 6 (fun k => .str (S [abcAt ((n / ((k : Int) + 1) + 3 * (k : Int)) % 26)])) (by walk_at "nm") (by omega) nd (fun j s H0 C cl fp G2 hj e => ?_) (blkOk_by (N := ["_law_number_here", "_law_letters", "_law_size", "_law_word", "_law_at", "_law_other", "_law_k"]) (sc := defScope s__law_keys) (by decide +kernel)) M.z_range (fun _ => rfl) (hx := fun _ _ _ _ _ => pg_name nd rfl (Or.inl rfl)))) (by unfold keyW; rw [List.map_map]; rfl)) (by omega))) e3 t4 (fun H4 e5 e6 t6 => ?_)
  · have m0 := Int.emod_nonneg (n / ((j : Int) + 1) + 3 * (j : Int)) (show (26 : Int) ≠ 0 by decide)
    have m1 := Int.emod_lt_of_pos (n / ((j : Int) + 1) + 3 * (j : Int)) (show (0 : Int) < 26 by decide)
    exact ev_ixS (x := abc) (by walk_at "nm") (by walk_at "xv") (by decide +kernel) (abcAt_at m0 m1)
  have hA : n / 8 % (1 + n % 8) = (keyA n : Int) := by
    unfold keyA
    have := Int.emod_nonneg (n / 8) (show (1 + n % 8 : Int) ≠ 0 by omega)
    omega
  refine bb_val 4 nd (Hb := G) (EvD.toInt (i := (keyA n : Int)) (by rw [← hA]; walk_at "xv")) e5 t6 (fun H5 e7 e8 t8 => ?_)
  have m0 := Int.emod_nonneg (Txt.find abc (S [(keyW n).getD (keyA n) 97]) + 1 + n / 64 % 25) (show (26 : Int) ≠ 0 by decide)
  have m1 := Int.emod_lt_of_pos (Txt.find abc (S [(keyW n).getD (keyA n) 97]) + 1 + n / 64 % 25) (show (0 : Int) < 26 by decide)
  have hw : atI (keyW n) (keyA n : Int) = some ((keyW n).getD (keyA n) 97) := atI_nat (by rw [List.getD_eq_getElem?_getD, List.getElem?_eq_getElem ka]; rfl)
  refine bb_val 5 nd (Hb := G) (EvD.toStr (i := S [keyO n]) (ev_ixS (x := abc) (by walk_at "nm") (ev_mod (ev_add (ev_add (ev_findS (x := abc) (by walk_at "nm") (ev_ixN (l := keyW n) (by walk_at "nm") (by walk_at "nm") (by omega) hw)) ev_int) (by walk_at "xv")) ev_int (by decide)) (by decide +kernel) (abcAt_at m0 m1))) e7 t8 (fun H6 e9 e10 t10 => ?_)
  refine bb_ret (Hb := G) (d := dStrs (keysF n)) (ev_lst (ds := (keysF n).map PyData.str) (ea_cons (by walk_at "nm") (ea_cons (ev_catN (ev_catN (ev_slSt (n := keyA n) (by walk_at "nm") (by omega) (by walk_at "nm")) (by walk_at "nm") (by rw [List.length_take]; show _ + 1 ≤ _; omega)) (ev_slSf (n := keyA n + 1) (by walk_at "nm") (by omega) (EvD.to (d := .int ((keyA n : Int) + 1)) (by walk_at "xv") rfl)) (by rw [List.length_append, List.length_take, List.length_drop]; show _ + 1 + _ ≤ _; omega)) (ea_cons (ev_slSt (n := 8) (ev_catN (by walk_at "nm") (by walk_at "nm") (by show _ + 1 ≤ _; omega)) (by rw [List.length_append]; show _ + 1 ≤ _; omega) ev_int) (ea_cons ev_str ea_nil)))) (by show 4 ≤ 100000; decide)) e9 t10 (fun v G2 H7 f r => q v G2 H7 (f.pre (((((e2.trans e4).trans e6).trans e8)).trans e10)) r)
end
end Pf

namespace Pf
open PySem L2 C
/-! ### words of this text: «dp» closes what data is, «xv» walks an expression, «xt» a test -/
local macro_rules | `(tactic| walk_at "dp5") => `(tactic| assumption)
local macro_rules | `(tactic| walk_at "dp4") => `(tactic| first
  | assumption
  | (refine Ext.dp (Fr.g (by assumption)) ?_; walk_at "dp5")
  | (refine Ext.dp (by assumption) ?_; walk_at "dp5"))
local macro_rules | `(tactic| walk_at "dp3") => `(tactic| first
  | assumption
  | (refine Ext.dp (Fr.g (by assumption)) ?_; walk_at "dp4")
  | (refine Ext.dp (by assumption) ?_; walk_at "dp4"))
local macro_rules | `(tactic| walk_at "dp2") => `(tactic| first
  | assumption
  | (refine Ext.dp (Fr.g (by assumption)) ?_; walk_at "dp3")
  | (refine Ext.dp (by assumption) ?_; walk_at "dp3"))
local macro_rules | `(tactic| walk_at "dp1") => `(tactic| first
  | assumption
  | (refine Ext.dp (Fr.g (by assumption)) ?_; walk_at "dp2")
  | (refine Ext.dp (by assumption) ?_; walk_at "dp2"))
local macro_rules | `(tactic| walk_at "dp") => `(tactic| first
  | assumption
  | exact Dp.int _ | exact Dp.str _ | exact Dp.bl _ | exact Dp.non
  | (refine Ext.dp (Fr.g (by assumption)) ?_; walk_at "dp1")
  | (refine Ext.dp (by assumption) ?_; walk_at "dp1"))
local macro_rules | `(tactic| walk_at "side") => `(tactic| first | assumption | decide | omega | (simp only [List.length_cons, List.length_nil]; omega) | (simp only [Int.natAbs]; omega))
local macro_rules | `(tactic| walk_at "xv") => `(tactic| first
  | ((with_reducible show EvD _ (Expr.Name _ _) _ _ _); walk_at "nm")
  | ((with_reducible show EvD _ (Expr.Constant _ _ _) _ _ _); first | exact ev_int | exact ev_str | exact ev_bl | exact ev_non)
  | ((with_reducible show EvD _ (Expr.BinOp _ .Add _ _) _ _ _); first | (apply ev_add; walk_at "xv"; walk_at "xv") | (apply ev_catS; walk_at "xv"; walk_at "xv"; walk_at "side"))
  | ((with_reducible show EvD _ (Expr.BinOp _ .Sub _ _) _ _ _); apply ev_sub; walk_at "xv"; walk_at "xv")
  | ((with_reducible show EvD _ (Expr.BinOp _ .Mod _ _) _ _ _); apply ev_mod; walk_at "xv"; walk_at "xv"; walk_at "side")
  | ((with_reducible show EvD _ (Expr.BinOp _ .FloorDiv _ _) _ _ _); apply ev_div; walk_at "xv"; walk_at "xv"; walk_at "side")
  | ((with_reducible show EvD _ (Expr.BinOp _ .Mult _ _) _ _ _); first | (apply ev_mulR; walk_at "xv"; walk_at "xv"; walk_at "side") | (apply ev_mulL; walk_at "xv"; walk_at "xv"; walk_at "side"))
  | ((with_reducible show EvD _ (Expr.Tuple _ _ _) _ _ _); apply ev_tup; walk_at "xa"; walk_at "side")
  | ((with_reducible show EvD _ (Expr.List _ _) _ _ _); apply ev_lst; walk_at "xa"; walk_at "side")
  | walk_at "xown")
local macro_rules | `(tactic| walk_at "xa") => `(tactic| first | exact ea_nil | (refine' ea_cons ?xa ?xb; (case xa => walk_at "xv"); (case xb => walk_at "xa")))
local macro_rules | `(tactic| walk_at "xt") => `(tactic| first
  | ((with_reducible show EvT _ (Expr.Compare _ [.Lt] _ _) _ _ _); refine' et_lt ?xa ?xb; (case xa => walk_at "xv"); (case xb => walk_at "xv"))
  | ((with_reducible show EvT _ (Expr.Compare _ [.LtE] _ _) _ _ _); refine' et_le ?xa ?xb; (case xa => walk_at "xv"); (case xb => walk_at "xv"))
  | ((with_reducible show EvT _ (Expr.Compare _ [.Gt] _ _) _ _ _); refine' et_gt ?xa ?xb; (case xa => walk_at "xv"); (case xb => walk_at "xv"))
  | ((with_reducible show EvT _ (Expr.Compare _ [.GtE] _ _) _ _ _); refine' et_ge ?xa ?xb; (case xa => walk_at "xv"); (case xb => walk_at "xv"))
  | ((with_reducible show EvT _ (Expr.Compare _ [.Eq] _ _) _ _ _); first | (refine' et_eqI ?xa ?xb; (case xa => walk_at "xv"); (case xb => walk_at "xv")) | (refine' et_eqS ?xa ?xb; (case xa => walk_at "xv"); (case xb => walk_at "xv")))
  | ((with_reducible show EvT _ (Expr.Compare _ [.NotEq] _ _) _ _ _); first | (refine' et_neI ?xa ?xb; (case xa => walk_at "xv"); (case xb => walk_at "xv")) | (refine' et_neS ?xa ?xb; (case xa => walk_at "xv"); (case xb => walk_at "xv")))
  | ((with_reducible show EvT _ (Expr.Compare _ [.Is] _ _) _ _ _); refine' et_isN ?xa ?xb; (case xa => walk_at "xv"); (case xb => walk_at "xv"))
  | ((with_reducible show EvT _ (Expr.Compare _ [.IsNot] _ _) _ _ _); refine' et_notN ?xa ?xb; (case xa => walk_at "xv"); (case xb => walk_at "xv"))
  | ((with_reducible show EvT _ (Expr.UnaryOp .Not _ _) _ _ _); apply et_not; walk_at "xt"))
section
variable {P : Program} {w : World} {K : PySem.W.Frag} {mg : Str → Option Value} {base : Heap}
/-! one deed done in a store -/
local macro_rules | `(tactic| walk_at "nm") => `(tactic| first
  | ((with_reducible show EvD _ (Expr.Name "store" _) _ _ _); refine' ev_name 0 ?r ?h; (case h => rfl); (case r => walk_at "dp"))
  | ((with_reducible show EvD _ (Expr.Name "deed" _) _ _ _); refine' ev_name 1 ?r ?h; (case h => rfl); (case r => walk_at "dp"))
  | ((with_reducible show EvD _ (Expr.Name "word" _) _ _ _); refine' ev_name 2 ?r ?h; (case h => rfl); (case r => walk_at "dp"))
  | ((with_reducible show EvD _ (Expr.Name "key" _) _ _ _); refine' ev_name 3 ?r ?h; (case h => rfl); (case r => walk_at "dp"))
  | ((with_reducible show EvD _ (Expr.Name "value" _) _ _ _); refine' ev_name 4 ?r ?h; (case h => rfl); (case r => walk_at "dp"))
  | ((with_reducible show EvD _ (Expr.Name "had" _) _ _ _); refine' ev_name 5 ?r ?h; (case h => rfl); (case r => walk_at "dp")))

theorem ok_do (M : MF K mg) : FnOk P w K mg base CX0 1 M.a__do M.d__do ["store", "deed"] (SpDo K) := by
  refine M.F__do.ok sc__do (fun vs H Q E h => ?_) (fun cdv A outer s_ H vs Q E hr h => ?_)
  · obtain ⟨G, t, s, x, vd, _, _, _, _, e, _⟩ := h
    rw [e]; rfl
  obtain ⟨G, t, s, x, vd, e0, t0, gt, hl, rfl, rx, hs, q⟩ := h
  refine ⟨_, pss_b, ?_⟩
  have nd := sc__do.nd
  have hu := hu_of hr
  have gG : ∀ {o : HO}, Ext G (upd G t o) := Ext.new gt
  refine bb_unp (Hb := G) (ds := [.str x.w, .str x.k, .int x.v]) (ev_slTf (n := 2) (ds := [.int x.a, .int x.t, .str x.w, .str x.k, .int x.v]) (by walk_at "nm") ev_int) e0 t0 (pgs_cons (pg_name (i := 2) nd rfl (Or.inl rfl)) (pgs_cons (pg_name (i := 3) nd rfl (Or.inl rfl)) (pgs_cons (pg_name (i := 4) nd rfl (Or.inl rfl)) pgs_nil))) rfl (fun xs G2 H3 f r => ?_)
  obtain ⟨u1, u2, u3, rfl, q1, q2, q3⟩ := all3 r
  cases dp_str q1; cases dp_str q2; cases dp_int q3
  refine ⟨_, _, rfl, _, _, rfl, _, _, rfl, rfl, ?_⟩
  have F0 : FrM K t G H G H3 := (((Fr.refl e0 t0).m).stepE f.h f.tok)
  have hl3 := f.h.keep _ _ hl rfl
  clear r q1 q2 q3 f
  refine bb_val 5 nd (Hb := upd G t (.dK (kvS s))) (ed_get1 (s := s) (k := x.k) hu (ev_var 0 rfl) (by walk_at "nm") upd_same) (F0.g2.add hl3 rfl) F0.tok (fun H4 e1 e2 t4 => ?_)
  have F1 := F0.stepE e2 t4
  have hl4 := e2.keep _ _ hl3 rfl
  clear F0 e1 e2 t4 hl3
  refine bb_if0 (Hb := G) (et_eqS (by walk_at "nm") ev_str) F1.g2 F1.tok (fun c H5 _ e6 t6 => ?_) (fun c H5 _ e6 t6 => ?_)
  · have c' : x.w = "away" := of_decide_eq_true c
    have F2 := F1.stepE e6 t6
    have hl5 := e6.keep _ _ hl4 rfl
    refine bb_popD (Hb := upd G t (.dK (kvS s))) (s := s) (k := x.k) (ev_var 0 rfl) (by walk_at "nm") ev_non (F2.g2.add hl5 rfl) t6 hl5 (fun H6 e7 t7 => ?_)
    have F3 : FrM K t G H G (upd H6 t (.dK (kvS (dropS s x.k)))) := FrM.put (F2.stepE e7 t7) gt rfl
    refine bb_retP (Hb := G) (ev_var 5 rfl) F3.g2 F3.tok (fun v G3 H7 f3 e3 => ?_)
    subst e3
    have z := q G3 H7 (F3.step f3 ⟨_, upd_same⟩) (f3.off t _ gt upd_same)
    unfold stepS at z
    rw [if_neg (by rw [c']; decide), if_pos c'] at z
    exact z (f3.h.keep _ _ upd_same rfl)
  have c1 : ¬ x.w = "away" := of_decide_eq_false c
  have F2 := F1.stepE e6 t6
  have hl5 := e6.keep _ _ hl4 rfl
  clear F1 hl4 c e6 t6
  refine bb_if0 (Hb := G) (et_eqS (by walk_at "nm") ev_str) F2.g2 F2.tok (fun c H6 _ e6 t6 => ?_) (fun c H6 _ e6 t6 => ?_)
  · have c' : x.w = "put" := of_decide_eq_true c
    have F3 := F2.stepE e6 t6
    have hl6 := e6.keep _ _ hl5 rfl
    refine bb_setD (Hb := upd G t (.dK (kvS s))) (s := s) (k := x.k) (n := x.v) hu (EvD.toInt (by walk_at "nm")) (ev_var 0 rfl) (by walk_at "nm") (F3.g2.add hl6 rfl) t6 hl6 (by omega) (fun H7 e7 t7 => ?_)
    have F4 : FrM K t G H G (upd H7 t (.dK (kvS (putS s x.k x.v)))) := FrM.put (F3.stepE e7 t7) gt rfl
    refine bb_retP (Hb := G) (ev_var 5 rfl) F4.g2 F4.tok (fun v G3 H8 f3 e3 => ?_)
    subst e3
    have z := q G3 H8 (F4.step f3 ⟨_, upd_same⟩) (f3.off t _ gt upd_same)
    unfold stepS at z
    rw [if_pos c'] at z
    exact z (f3.h.keep _ _ upd_same rfl)
  have c2 : ¬ x.w = "put" := of_decide_eq_false c
  have F3 := F2.stepE e6 t6
  have hl6 := e6.keep _ _ hl5 rfl
  clear F2 hl5 c e6 t6
  refine bb_ifM (Hb := G) (fun σ' H' => σ' = [some (.ref t), some vd, some (.str x.w), some (.str x.k), some (.int x.v), some (oV (valS s x.k))] ∧ ∃ s' n, FrM K t G H G H' ∧ H' t = some (.dK (kvS s')) ∧ stepS s x = (s', some n) ∧ valS s' x.k = some n) (et_eqS (by walk_at "nm") ev_str) F3.g2 F3.tok (fun c H7 _ e6 t6 => ?_) (fun c H7 _ e6 t6 => ?_) (fun σ' H' p => ?_)
  · have c' : x.w = "add" := of_decide_eq_true c
    have F4 := F3.stepE e6 t6
    have hl7 := e6.keep _ _ hl6 rfl
    refine bb_setD (Hb := upd G t (.dK (kvS s))) (s := s) (k := x.k) (n := (valS s x.k).getD 0 + x.v) hu (EvD.toInt (ev_add (ed_get2 (s := s) (k := x.k) hu (ev_var 0 rfl) (by walk_at "nm") ev_int upd_same) (by walk_at "nm"))) (ev_var 0 rfl) (by walk_at "nm") (F4.g2.add hl7 rfl) t6 hl7 (by omega) (fun H8 e7 t7 => bb_nil ⟨rfl, _, _, FrM.put (F4.stepE e7 t7) gt rfl, upd_same, ?_, valS_put _ _ _⟩)
    unfold stepS
    rw [if_neg c2, if_neg c1, if_pos c']
  · have c3 : ¬ x.w = "add" := of_decide_eq_false c
    have F4 := F3.stepE e6 t6
    have hl7 := e6.keep _ _ hl6 rfl
    refine bb_if0 (Hb := G) (et_isN (EvV.dat (ev_var 5 rfl) (dp_oV (valS s x.k))) ev_non) F4.g2 F4.tok (fun c4 H8 _ e7 t7 => ?_) (fun c4 H8 _ e7 t7 => bb_nil ⟨rfl, ?_⟩)
    · have F5 := F4.stepE e7 t7
      have hl8 := e7.keep _ _ hl7 rfl
      refine bb_setD (Hb := upd G t (.dK (kvS s))) (s := s) (k := x.k) (n := x.v) hu (EvD.toInt (by walk_at "nm")) (ev_var 0 rfl) (by walk_at "nm") (F5.g2.add hl8 rfl) t7 hl8 (by omega) (fun H9 e8 t8 => bb_nil (bb_nil ⟨rfl, _, _, FrM.put (F5.stepE e8 t8) gt rfl, upd_same, ?_, valS_put _ _ _⟩))
      unfold stepS
      rw [if_neg c2, if_neg c1, if_neg c3]
      rw [isNone_oD] at c4
      cases e : valS s x.k with
      | none => rfl
      | some i => rw [e] at c4; cases c4
    · rw [isNone_oD] at c4
      cases e : valS s x.k with
      | none => rw [e] at c4; cases c4
      | some i =>
        refine ⟨s, i, F4.stepE e7 t7, e7.keep _ _ hl7 rfl, ?_, e⟩
        unfold stepS
        rw [if_neg c2, if_neg c1, if_neg c3, e]
  · obtain ⟨rfl, s', n, F, h8, st, hv⟩ := p
    refine bb_retP (Hb := upd G t (.dK (kvS s'))) (EvD.toInt (ed_ix (s := s') (k := x.k) hu (ev_var 0 rfl) (by walk_at "nm") upd_same hv)) (F.g2.add h8 rfl) F.tok (fun v G3 H8 f3 e3 => ?_)
    subst e3
    obtain ⟨o1, o2, o3⟩ := F.outO rfl gt h8 f3
    have z := q _ H8 o1 dl_same
    rw [st] at z
    exact z o2
end
end Pf

namespace Pf
open PySem L2 C
/-! ### words of this text: «dp» closes what data is, «xv» walks an expression, «xt» a test -/
local macro_rules | `(tactic| walk_at "dp5") => `(tactic| assumption)
local macro_rules | `(tactic| walk_at "dp4") => `(tactic| first
  | assumption
  | (refine Ext.dp (Fr.g (by assumption)) ?_; walk_at "dp5")
  | (refine Ext.dp (by assumption) ?_; walk_at "dp5"))
local macro_rules | `(tactic| walk_at "dp3") => `(tactic| first
  | assumption
  | (refine Ext.dp (Fr.g (by assumption)) ?_; walk_at "dp4")
  | (refine Ext.dp (by assumption) ?_; walk_at "dp4"))
local macro_rules | `(tactic| walk_at "dp2") => `(tactic| first
  | assumption
  | (refine Ext.dp (Fr.g (by assumption)) ?_; walk_at "dp3")
  | (refine Ext.dp (by assumption) ?_; walk_at "dp3"))
local macro_rules | `(tactic| walk_at "dp1") => `(tactic| first
  | assumption
  | (refine Ext.dp (Fr.g (by assumption)) ?_; walk_at "dp2")
  | (refine Ext.dp (by assumption) ?_; walk_at "dp2"))
local macro_rules | `(tactic| walk_at "dp") => `(tactic| first
  | assumption
  | exact Dp.int _ | exact Dp.str _ | exact Dp.bl _ | exact Dp.non
  | (refine Ext.dp (Fr.g (by assumption)) ?_; walk_at "dp1")
  | (refine Ext.dp (by assumption) ?_; walk_at "dp1"))
local macro_rules | `(tactic| walk_at "side") => `(tactic| first | assumption | decide | omega | (simp only [List.length_cons, List.length_nil]; omega) | (simp only [Int.natAbs]; omega))
local macro_rules | `(tactic| walk_at "xv") => `(tactic| first
  | ((with_reducible show EvD _ (Expr.Name _ _) _ _ _); walk_at "nm")
  | ((with_reducible show EvD _ (Expr.Constant _ _ _) _ _ _); first | exact ev_int | exact ev_str | exact ev_bl | exact ev_non)
  | ((with_reducible show EvD _ (Expr.BinOp _ .Add _ _) _ _ _); first | (apply ev_add; walk_at "xv"; walk_at "xv") | (apply ev_catS; walk_at "xv"; walk_at "xv"; walk_at "side"))
  | ((with_reducible show EvD _ (Expr.BinOp _ .Sub _ _) _ _ _); apply ev_sub; walk_at "xv"; walk_at "xv")
  | ((with_reducible show EvD _ (Expr.BinOp _ .Mod _ _) _ _ _); apply ev_mod; walk_at "xv"; walk_at "xv"; walk_at "side")
  | ((with_reducible show EvD _ (Expr.BinOp _ .FloorDiv _ _) _ _ _); apply ev_div; walk_at "xv"; walk_at "xv"; walk_at "side")
  | ((with_reducible show EvD _ (Expr.BinOp _ .Mult _ _) _ _ _); first | (apply ev_mulR; walk_at "xv"; walk_at "xv"; walk_at "side") | (apply ev_mulL; walk_at "xv"; walk_at "xv"; walk_at "side"))
  | ((with_reducible show EvD _ (Expr.Tuple _ _ _) _ _ _); apply ev_tup; walk_at "xa"; walk_at "side")
  | ((with_reducible show EvD _ (Expr.List _ _) _ _ _); apply ev_lst; walk_at "xa"; walk_at "side")
  | walk_at "xown")
local macro_rules | `(tactic| walk_at "xa") => `(tactic| first | exact ea_nil | (refine' ea_cons ?xa ?xb; (case xa => walk_at "xv"); (case xb => walk_at "xa")))
local macro_rules | `(tactic| walk_at "xt") => `(tactic| first
  | ((with_reducible show EvT _ (Expr.Compare _ [.Lt] _ _) _ _ _); refine' et_lt ?xa ?xb; (case xa => walk_at "xv"); (case xb => walk_at "xv"))
  | ((with_reducible show EvT _ (Expr.Compare _ [.LtE] _ _) _ _ _); refine' et_le ?xa ?xb; (case xa => walk_at "xv"); (case xb => walk_at "xv"))
  | ((with_reducible show EvT _ (Expr.Compare _ [.Gt] _ _) _ _ _); refine' et_gt ?xa ?xb; (case xa => walk_at "xv"); (case xb => walk_at "xv"))
  | ((with_reducible show EvT _ (Expr.Compare _ [.GtE] _ _) _ _ _); refine' et_ge ?xa ?xb; (case xa => walk_at "xv"); (case xb => walk_at "xv"))
  | ((with_reducible show EvT _ (Expr.Compare _ [.Eq] _ _) _ _ _); first | (refine' et_eqI ?xa ?xb; (case xa => walk_at "xv"); (case xb => walk_at "xv")) | (refine' et_eqS ?xa ?xb; (case xa => walk_at "xv"); (case xb => walk_at "xv")))
  | ((with_reducible show EvT _ (Expr.Compare _ [.NotEq] _ _) _ _ _); first | (refine' et_neI ?xa ?xb; (case xa => walk_at "xv"); (case xb => walk_at "xv")) | (refine' et_neS ?xa ?xb; (case xa => walk_at "xv"); (case xb => walk_at "xv")))
  | ((with_reducible show EvT _ (Expr.Compare _ [.Is] _ _) _ _ _); refine' et_isN ?xa ?xb; (case xa => walk_at "xv"); (case xb => walk_at "xv"))
  | ((with_reducible show EvT _ (Expr.Compare _ [.IsNot] _ _) _ _ _); refine' et_notN ?xa ?xb; (case xa => walk_at "xv"); (case xb => walk_at "xv"))
  | ((with_reducible show EvT _ (Expr.UnaryOp .Not _ _) _ _ _); apply et_not; walk_at "xt"))
section
variable {P : Program} {w : World} {K : PySem.W.Frag} {mg : Str → Option Value} {base : Heap}
/-! the store drawn -/
def storeAt (ns : List Int) (ks : List Str) : Nat → Sto
  | 0 => []
  | j + 1 => if 0 < cellAt ns (1 + j) % 3 then putS (storeAt ns ks j) (ks.getD j (S [])) (numberF (mixed (cellAt ns (1 + j)) j)) else storeAt ns ks j
theorem storeAt_len (ns : List Int) (ks : List Str) : ∀ j, (storeAt ns ks j).length ≤ j
  | 0 => Nat.le_refl _
  | j + 1 => by
    have h := storeAt_len ns ks j
    unfold storeAt
    split
    · exact Nat.le_trans (putS_len _ _ _) (Nat.succ_le_succ h)
    · omega
theorem storeAt_nd (ns : List Int) (ks : List Str) : ∀ j, ((storeAt ns ks j).map (·.1)).Nodup
  | 0 => .nil
  | j + 1 => by
    have h := storeAt_nd ns ks j
    unfold storeAt
    split
    · exact put_nd h _ _
    · exact h
theorem storeAt_mem (ns : List Int) {ks : List Str} (hk : ∀ z ∈ ks, okS z = true) : ∀ j, ∀ z ∈ (storeAt ns ks j).map (·.1), okS z = true
  | 0 => fun z hz => nomatch hz
  | j + 1 => by
    have h := storeAt_mem ns hk j
    unfold storeAt
    split
    · refine put_mem h ?_
      rcases getD_cases ks j (S []) with e | e
      · exact hk _ e
      · rw [e]; decide +kernel
    · exact h
def SpStore (K : PySem.W.Frag) : Sp := fun vs H Q _ => ∃ G ns ks v1 v2, Ext G H ∧ TabsOk K H ∧ vs = [v1, v2] ∧ Dp K G v1 (dInts ns) ∧ Dp K G v2 (dStrs ks) ∧ ks.length = 4 ∧
  ∀ t G' H2, Fr K G H G' H2 → H t = none → G' t = some (.dK (kvS (storeAt ns ks 4))) → Q (.ref t) H2
local macro_rules | `(tactic| walk_at "nm") => `(tactic| first
  | ((with_reducible show EvD _ (Expr.Name "_law_script" _) _ _ _); refine' ev_name 0 ?r ?h; (case h => rfl); (case r => walk_at "dp"))
  | ((with_reducible show EvD _ (Expr.Name "_law_keys_here" _) _ _ _); refine' ev_name 1 ?r ?h; (case h => rfl); (case r => walk_at "dp"))
  | ((with_reducible show EvD _ (Expr.Name "_law_store_here" _) _ _ _); refine' ev_name 2 ?r ?h; (case h => rfl); (case r => walk_at "dp"))
  | ((with_reducible show EvD _ (Expr.Name "_law_k" _) _ _ _); refine' ev_name 3 ?r ?h; (case h => rfl); (case r => walk_at "dp"))
  | ((with_reducible show EvD _ (Expr.Name "_law_cell" _) _ _ _); refine' ev_name 4 ?r ?h; (case h => rfl); (case r => walk_at "dp")))

theorem ok_store (M : MF K mg) : FnOk P w K mg base CX0 2 M.a__law_store M.d__law_store ["_law_script", "_law_keys_here"] (SpStore K) := by
  refine M.F__law_store.ok sc__law_store (fun vs H Q E h => ?_) (fun cdv A outer s_ H vs Q E hr h => ?_)
  · obtain ⟨G, ns, ks, v1, v2, _, _, e, _⟩ := h
    rw [e]; rfl
  obtain ⟨G, ns, ks, v1, v2, e0, t0, rfl, r1, r2, hk, q⟩ := h
  refine ⟨_, pss_b, ?_⟩
  have nd := sc__law_store.nd
  have hu := hu_of hr
  refine bb_new 2 nd (Hb := G) en_dict e0 t0 rfl (fun t H1 e1 t1 ht h1t => ?_)
  have gt := e0.fresh ht
  refine bb_forR (Hb := G) (N := 4) 3 nd (fun j σ' H' => (∃ o1 o2, σ' = [some v1, some v2, some (.ref t), o1, o2]) ∧ Fr K G H G H' ∧ H' t = some (.dK (kvS (storeAt ns ks j)))) ev_int (e0.trans e1) t1 ⟨by decide, by decide⟩ (fun H2 e2 e3 t2 => ⟨⟨none, none, rfl⟩, ((Fr.refl e0 t0).step (e0.trans (e1.trans e3)) (e1.trans e3) t2), e3.keep _ _ h1t rfl⟩) (fun j σ' H' hj p => ?_) (fun σ' H' p => ?_) PassesOwn.never M.z_range
  · obtain ⟨⟨o1, o2, rfl⟩, F, hl⟩ := p
    have mm := mixed_lt (cellAt ns (1 + j)) j
    have jl : (j : Int) < ks.length := by omega
    have hat : atI (ks.map PyData.str) (j : Int) = some (.str (ks.getD j (S []))) := by
      have := atI_map (f := PyData.str) (xs := ks) (i := (j : Int)) (by omega) jl (S [])
      rwa [Int.toNat_natCast] at this
    have sl := storeAt_len ns ks j
    refine bb_val 4 nd (Hb := G) (EvD.toInt (i := cellAt ns (1 + j)) (ev_call (ok_cell M) (hr.mono (by decide)) rfl M.m__law_cell_at M.F__law_cell_at.kp M.b__law_cell_at pass0 (ea_cons (by walk_at "nm") (ea_cons (ev_add ev_int (by walk_at "nm")) ea_nil)) ⟨ns, 1 + j, by rw [Int.natCast_add]; rfl, rfl⟩ fun _ _ => trivial)) F.g2 F.tok (fun H2 e2 e3 t2 => ?_)
    refine bb_if0 (Hb := G) (et_gt (ev_mod (by walk_at "nm") ev_int (by decide)) ev_int) e2 t2 (fun c H3 e4 e5 t3 => ?_) (fun c H3 e4 e5 t3 => bb_nil ⟨⟨_, _, rfl⟩, F.step e4 (e3.trans e5) t3, ?_⟩)
    · refine bb_setD (Hb := G) (s := storeAt ns ks j) (k := ks.getD j (S [])) (n := numberF (mixed (cellAt ns (1 + j)) j)) hu (EvD.toInt (ev_call (ok_number M) (hr.mono (by decide)) rfl M.m__law_number M.F__law_number.kp M.b__law_number pass0 (ea_cons (ev_call (ok_mix M) (hr.mono (by decide)) rfl M.m__law_mixed M.F__law_mixed.kp M.b__law_mixed pass0 (ea_cons (by walk_at "nm") (ea_cons (by walk_at "nm") ea_nil)) ⟨_, _, rfl, rfl⟩ fun _ _ => trivial) ea_nil) ⟨_, rfl, ⟨mm.1, by omega⟩, rfl⟩ fun _ _ => trivial)) (ev_var 2 rfl) (ev_ixL (by walk_at "nm") (by walk_at "nm") hat) e4 t3 ((e3.trans e5).keep _ _ hl rfl) (by omega) (fun H4 e6 t4 => bb_nil (bb_nil ⟨⟨_, _, rfl⟩, (F.step (e4.trans e6) ((e3.trans e5).trans e6) t4).put rfl ht gt, ?_⟩))
      rw [upd_same, show storeAt ns ks (j + 1) = putS (storeAt ns ks j) (ks.getD j (S [])) (numberF (mixed (cellAt ns (1 + j)) j)) from if_pos (of_decide_eq_true c)]
    · rw [(e3.trans e5).keep _ _ hl rfl]
      show _ = some (HO.dK (kvS (storeAt ns ks (j + 1))))
      rw [show storeAt ns ks (j + 1) = storeAt ns ks j from if_neg (of_decide_eq_false c)]
  · obtain ⟨⟨o1, o2, rfl⟩, F, hl⟩ := p
    have FA := F.add hl rfl ht gt
    refine bb_retP (Hb := upd G t (.dK (kvS (storeAt ns ks 4)))) (ev_var 2 rfl) FA.g2 FA.tok (fun v G3 H3 f3 e3 => ?_)
    subst e3
    exact q t G3 H3 (FA.trans f3) ht (f3.g.keep _ _ upd_same rfl)
end
section
variable {P : Program} {w : World} {K : PySem.W.Frag} {mg : Str → Option Value} {base : Heap}
/-! done_by -/
def SpDB (K : PySem.W.Frag) : Sp := fun vs H Q _ => ∃ G a s x vd, Ext G H ∧ TabsOk K H ∧ vs = [.ref a, vd] ∧ G a = some (.dK (kvS s)) ∧ Dp K G vd x.d ∧ s.length ≤ 900 ∧
  ∀ p t G' H2, Fr K G H G' H2 → G' t = none → H t = none → SqT K G' p [.ref t, oV (stepS s x).2] → H2 t = some (.dK (kvS (stepS s x).1)) → Q (.ref p) H2
local macro_rules | `(tactic| walk_at "nm") => `(tactic| first
  | ((with_reducible show EvD _ (Expr.Name "store" _) _ _ _); refine' ev_name 0 ?r ?h; (case h => rfl); (case r => walk_at "dp"))
  | ((with_reducible show EvD _ (Expr.Name "deed" _) _ _ _); refine' ev_name 1 ?r ?h; (case h => rfl); (case r => walk_at "dp"))
  | ((with_reducible show EvD _ (Expr.Name "after" _) _ _ _); refine' ev_name 2 ?r ?h; (case h => rfl); (case r => walk_at "dp"))
  | ((with_reducible show EvD _ (Expr.Name "answer" _) _ _ _); refine' ev_name 3 ?r ?h; (case h => rfl); (case r => walk_at "dp")))

theorem ok_doneby (M : MF K mg) : FnOk P w K mg base CX0 2 M.a_done_by M.d_done_by ["store", "deed"] (SpDB K) := by
  refine M.F_done_by.ok sc_done_by (fun vs H Q E h => ?_) (fun cdv A outer s_ H vs Q E hr h => ?_)
  · obtain ⟨G, a, s, x, vd, _, _, e, _⟩ := h
    rw [e]; rfl
  obtain ⟨G, a, s, x, vd, e0, t0, rfl, ga, rx, sl, q⟩ := h
  refine ⟨_, pss_b, ?_⟩
  have nd := sc_done_by.nd
  have hu := hu_of hr
  refine bb_new 2 nd (Hb := G) (en_dictD (s := s) (ev_var 0 rfl) (.inl ga) M.z_dict) e0 t0 rfl (fun t H1 e1 t1 ht h1t => ?_)
  have gt := e0.fresh ht
  refine bb_asgE 3 nd (bE_call (H := G) (P := fun us _ => us = [.ref t, vd]) (ok_do M) (hr.mono (by decide)) rfl M.m__do M.F__do.kp M.b__do pass0 (eav_cons (ev_var 2 rfl) (eav_cons (ev_var 1 rfl) eav_nil)) (e0.trans e1) t1 (fun us G4 H4 f4 e4 => ?_))
  subst e4
  refine ⟨G, t, s, x, vd, (e0.trans e1).trans f4.h, f4.tok, gt, f4.h.keep _ _ h1t rfl, rfl, rx, sl, fun G' H5 FM g5 h5 => ?_⟩
  have FR : Fr K G H G' H5 := (Fr.refl e0 t0).thenM (FM.pre (e1.trans f4.h)) ht |> fun z => z
  refine bb_retP (Hb := G') (ev_tupV (eav_cons (ev_var 2 rfl) (eav_cons (ev_var 3 rfl) eav_nil)) (by show 2 ≤ 100000; decide)) FR.g2 FR.tok (fun v G6 H6 f6 p => ?_)
  obtain ⟨pp, rfl, hp⟩ := p
  exact q pp t G6 H6 (FR.trans f6) (f6.off t _ g5 h5) ht hp (f6.h.keep _ _ h5 rfl)
end
end Pf

namespace Pf
open PySem L2 C
/-! ### words of this text: «dp» closes what data is, «xv» walks an expression, «xt» a test -/
local macro_rules | `(tactic| walk_at "dp5") => `(tactic| assumption)
local macro_rules | `(tactic| walk_at "dp4") => `(tactic| first
  | assumption
  | (refine Ext.dp (Fr.g (by assumption)) ?_; walk_at "dp5")
  | (refine Ext.dp (by assumption) ?_; walk_at "dp5"))
local macro_rules | `(tactic| walk_at "dp3") => `(tactic| first
  | assumption
  | (refine Ext.dp (Fr.g (by assumption)) ?_; walk_at "dp4")
  | (refine Ext.dp (by assumption) ?_; walk_at "dp4"))
local macro_rules | `(tactic| walk_at "dp2") => `(tactic| first
  | assumption
  | (refine Ext.dp (Fr.g (by assumption)) ?_; walk_at "dp3")
  | (refine Ext.dp (by assumption) ?_; walk_at "dp3"))
local macro_rules | `(tactic| walk_at "dp1") => `(tactic| first
  | assumption
  | (refine Ext.dp (Fr.g (by assumption)) ?_; walk_at "dp2")
  | (refine Ext.dp (by assumption) ?_; walk_at "dp2"))
local macro_rules | `(tactic| walk_at "dp") => `(tactic| first
  | assumption
  | exact Dp.int _ | exact Dp.str _ | exact Dp.bl _ | exact Dp.non
  | (refine Ext.dp (Fr.g (by assumption)) ?_; walk_at "dp1")
  | (refine Ext.dp (by assumption) ?_; walk_at "dp1"))
local macro_rules | `(tactic| walk_at "side") => `(tactic| first | assumption | decide | omega | (simp only [List.length_cons, List.length_nil]; omega) | (simp only [Int.natAbs]; omega))
local macro_rules | `(tactic| walk_at "xv") => `(tactic| first
  | ((with_reducible show EvD _ (Expr.Name _ _) _ _ _); walk_at "nm")
  | ((with_reducible show EvD _ (Expr.Constant _ _ _) _ _ _); first | exact ev_int | exact ev_str | exact ev_bl | exact ev_non)
  | ((with_reducible show EvD _ (Expr.BinOp _ .Add _ _) _ _ _); first | (apply ev_add; walk_at "xv"; walk_at "xv") | (apply ev_catS; walk_at "xv"; walk_at "xv"; walk_at "side"))
  | ((with_reducible show EvD _ (Expr.BinOp _ .Sub _ _) _ _ _); apply ev_sub; walk_at "xv"; walk_at "xv")
  | ((with_reducible show EvD _ (Expr.BinOp _ .Mod _ _) _ _ _); apply ev_mod; walk_at "xv"; walk_at "xv"; walk_at "side")
  | ((with_reducible show EvD _ (Expr.BinOp _ .FloorDiv _ _) _ _ _); apply ev_div; walk_at "xv"; walk_at "xv"; walk_at "side")
  | ((with_reducible show EvD _ (Expr.BinOp _ .Mult _ _) _ _ _); first | (apply ev_mulR; walk_at "xv"; walk_at "xv"; walk_at "side") | (apply ev_mulL; walk_at "xv"; walk_at "xv"; walk_at "side"))
  | ((with_reducible show EvD _ (Expr.Tuple _ _ _) _ _ _); apply ev_tup; walk_at "xa"; walk_at "side")
  | ((with_reducible show EvD _ (Expr.List _ _) _ _ _); apply ev_lst; walk_at "xa"; walk_at "side")
  | walk_at "xown")
local macro_rules | `(tactic| walk_at "xa") => `(tactic| first | exact ea_nil | (refine' ea_cons ?xa ?xb; (case xa => walk_at "xv"); (case xb => walk_at "xa")))
local macro_rules | `(tactic| walk_at "xt") => `(tactic| first
  | ((with_reducible show EvT _ (Expr.Compare _ [.Lt] _ _) _ _ _); refine' et_lt ?xa ?xb; (case xa => walk_at "xv"); (case xb => walk_at "xv"))
  | ((with_reducible show EvT _ (Expr.Compare _ [.LtE] _ _) _ _ _); refine' et_le ?xa ?xb; (case xa => walk_at "xv"); (case xb => walk_at "xv"))
  | ((with_reducible show EvT _ (Expr.Compare _ [.Gt] _ _) _ _ _); refine' et_gt ?xa ?xb; (case xa => walk_at "xv"); (case xb => walk_at "xv"))
  | ((with_reducible show EvT _ (Expr.Compare _ [.GtE] _ _) _ _ _); refine' et_ge ?xa ?xb; (case xa => walk_at "xv"); (case xb => walk_at "xv"))
  | ((with_reducible show EvT _ (Expr.Compare _ [.Eq] _ _) _ _ _); first | (refine' et_eqI ?xa ?xb; (case xa => walk_at "xv"); (case xb => walk_at "xv")) | (refine' et_eqS ?xa ?xb; (case xa => walk_at "xv"); (case xb => walk_at "xv")))
  | ((with_reducible show EvT _ (Expr.Compare _ [.NotEq] _ _) _ _ _); first | (refine' et_neI ?xa ?xb; (case xa => walk_at "xv"); (case xb => walk_at "xv")) | (refine' et_neS ?xa ?xb; (case xa => walk_at "xv"); (case xb => walk_at "xv")))
  | ((with_reducible show EvT _ (Expr.Compare _ [.Is] _ _) _ _ _); refine' et_isN ?xa ?xb; (case xa => walk_at "xv"); (case xb => walk_at "xv"))
  | ((with_reducible show EvT _ (Expr.Compare _ [.IsNot] _ _) _ _ _); refine' et_notN ?xa ?xb; (case xa => walk_at "xv"); (case xb => walk_at "xv"))
  | ((with_reducible show EvT _ (Expr.UnaryOp .Not _ _) _ _ _); apply et_not; walk_at "xt"))
section
variable {P : Program} {w : World} {K : PySem.W.Frag} {mg : Str → Option Value} {base : Heap}
/-! whole, the same answer -/
def Rwhole (ds : List PyData) (d : PyData) : Prop := ∃ n : Int, ds = [.int n] ∧ d = .bool true
local macro_rules | `(tactic| walk_at "nm") => `(tactic| first
  | ((with_reducible show EvD _ (Expr.Name "_law_found" _) _ _ _); refine' ev_name 0 ?r ?h; (case h => rfl); (case r => walk_at "dp")))

theorem ok_whole (M : MF K mg) : FnOk P w K mg base CX0 1 M.a__law_whole M.d__law_whole ["_law_found"] (SpR K (fun _ => True) Rwhole) := by
  refine M.F__law_whole.ok sc__law_whole (fun vs H Q E h => ?_) (fun cdv A outer s H vs Q E hr h => ?_)
  · obtain ⟨G, ds, d, _, _, r, _, ⟨n, e, _⟩, _⟩ := h
    rw [all_len r, e]; rfl
  obtain ⟨G, ds, d, e0, t0, r, T, ⟨n, rfl, rfl⟩, q⟩ := h
  obtain ⟨v1, rfl, r1⟩ := all1 r
  refine ⟨_, pss_b, ?_⟩
  have nd := sc__law_whole.nd
  exact bb_ret (Hb := G) (d := .bool true) (EvD.to (ev_and (ev_isi (d := .int n) (by walk_at "nm") (kit_int _) M.z_isinstance M.z_int (by decide +kernel)) fun _ => ev_one (ev_not (ev_isi (d := .int n) (by walk_at "nm") (kit_bool _) M.z_isinstance M.z_bool (by decide +kernel)))) rfl) e0 t0 q
def Rans (ds : List PyData) (d : PyData) : Prop := ∃ o : Option Int, ds = [oD o, oD o] ∧ d = .bool true
local macro_rules | `(tactic| walk_at "nm") => `(tactic| first
  | ((with_reducible show EvD _ (Expr.Name "_law_found" _) _ _ _); refine' ev_name 0 ?r ?h; (case h => rfl); (case r => walk_at "dp"))
  | ((with_reducible show EvD _ (Expr.Name "_law_due_here" _) _ _ _); refine' ev_name 1 ?r ?h; (case h => rfl); (case r => walk_at "dp")))

theorem ok_answersame (M : MF K mg) : FnOk P w K mg base CX0 2 M.a__law_answer_same M.d__law_answer_same ["_law_found", "_law_due_here"] (SpR K (fun _ => True) Rans) := by
  refine M.F__law_answer_same.ok sc__law_answer_same (fun vs H Q E h => ?_) (fun cdv A outer s H vs Q E hr h => ?_)
  · obtain ⟨G, ds, d, _, _, r, _, ⟨o, e, _⟩, _⟩ := h
    rw [all_len r, e]; rfl
  obtain ⟨G, ds, d, e0, t0, r, T, ⟨o, rfl, rfl⟩, q⟩ := h
  obtain ⟨v1, v2, rfl, r1, r2⟩ := all2 r
  refine ⟨_, pss_b, ?_⟩
  have nd := sc__law_answer_same.nd
  cases o with
  | none =>
    refine bb_if0 (Hb := G) (et_isN (d := .none) (by walk_at "nm") ev_non) e0 t0 (fun c H2 e1 e2 t2 => ?_) (fun c H2 e1 e2 t2 => Bool.noConfusion c)
    exact bb_ret (Hb := G) (d := .bool true) (ev_isN (d := .none) (by walk_at "nm") ev_non) e1 t2 (fun v G2 H3 f r => q v G2 H3 (f.pre e2) r)
  | some i =>
    refine bb_if0 (Hb := G) (et_isN (d := .int i) (by walk_at "nm") ev_non) e0 t0 (fun c H2 e1 e2 t2 => Bool.noConfusion c) (fun c H2 e1 e2 t2 => ?_)
    exact bb_ret (Hb := G) (d := .bool true) (EvD.to (ev_and (ev_call (ok_whole M) (hr.mono (by decide)) rfl M.m__law_whole M.F__law_whole.kp M.b__law_whole pass0 (ea_cons (by walk_at "nm") ea_nil) ⟨i, rfl, rfl⟩ fun _ _ => trivial) fun _ => ev_one (ev_eqI (i := i) (j := i) (by walk_at "nm") (by walk_at "nm"))) (by rw [decide_eq_true rfl]; rfl)) e1 t2 (fun v G2 H3 f r => q v G2 H3 (f.pre e2) r)
end
end Pf

namespace Pf
open PySem L2 C
/-! ### words of this text: «dp» closes what data is, «xv» walks an expression, «xt» a test -/
local macro_rules | `(tactic| walk_at "dp5") => `(tactic| assumption)
local macro_rules | `(tactic| walk_at "dp4") => `(tactic| first
  | assumption
  | (refine Ext.dp (Fr.g (by assumption)) ?_; walk_at "dp5")
  | (refine Ext.dp (by assumption) ?_; walk_at "dp5"))
local macro_rules | `(tactic| walk_at "dp3") => `(tactic| first
  | assumption
  | (refine Ext.dp (Fr.g (by assumption)) ?_; walk_at "dp4")
  | (refine Ext.dp (by assumption) ?_; walk_at "dp4"))
local macro_rules | `(tactic| walk_at "dp2") => `(tactic| first
  | assumption
  | (refine Ext.dp (Fr.g (by assumption)) ?_; walk_at "dp3")
  | (refine Ext.dp (by assumption) ?_; walk_at "dp3"))
local macro_rules | `(tactic| walk_at "dp1") => `(tactic| first
  | assumption
  | (refine Ext.dp (Fr.g (by assumption)) ?_; walk_at "dp2")
  | (refine Ext.dp (by assumption) ?_; walk_at "dp2"))
local macro_rules | `(tactic| walk_at "dp") => `(tactic| first
  | assumption
  | exact Dp.int _ | exact Dp.str _ | exact Dp.bl _ | exact Dp.non
  | (refine Ext.dp (Fr.g (by assumption)) ?_; walk_at "dp1")
  | (refine Ext.dp (by assumption) ?_; walk_at "dp1"))
local macro_rules | `(tactic| walk_at "side") => `(tactic| first | assumption | decide | omega | (simp only [List.length_cons, List.length_nil]; omega) | (simp only [Int.natAbs]; omega))
local macro_rules | `(tactic| walk_at "xv") => `(tactic| first
  | ((with_reducible show EvD _ (Expr.Name _ _) _ _ _); walk_at "nm")
  | ((with_reducible show EvD _ (Expr.Constant _ _ _) _ _ _); first | exact ev_int | exact ev_str | exact ev_bl | exact ev_non)
  | ((with_reducible show EvD _ (Expr.BinOp _ .Add _ _) _ _ _); first | (apply ev_add; walk_at "xv"; walk_at "xv") | (apply ev_catS; walk_at "xv"; walk_at "xv"; walk_at "side"))
  | ((with_reducible show EvD _ (Expr.BinOp _ .Sub _ _) _ _ _); apply ev_sub; walk_at "xv"; walk_at "xv")
  | ((with_reducible show EvD _ (Expr.BinOp _ .Mod _ _) _ _ _); apply ev_mod; walk_at "xv"; walk_at "xv"; walk_at "side")
  | ((with_reducible show EvD _ (Expr.BinOp _ .FloorDiv _ _) _ _ _); apply ev_div; walk_at "xv"; walk_at "xv"; walk_at "side")
  | ((with_reducible show EvD _ (Expr.BinOp _ .Mult _ _) _ _ _); first | (apply ev_mulR; walk_at "xv"; walk_at "xv"; walk_at "side") | (apply ev_mulL; walk_at "xv"; walk_at "xv"; walk_at "side"))
  | ((with_reducible show EvD _ (Expr.Tuple _ _ _) _ _ _); apply ev_tup; walk_at "xa"; walk_at "side")
  | ((with_reducible show EvD _ (Expr.List _ _) _ _ _); apply ev_lst; walk_at "xa"; walk_at "side")
  | walk_at "xown")
local macro_rules | `(tactic| walk_at "xa") => `(tactic| first | exact ea_nil | (refine' ea_cons ?xa ?xb; (case xa => walk_at "xv"); (case xb => walk_at "xa")))
local macro_rules | `(tactic| walk_at "xt") => `(tactic| first
  | ((with_reducible show EvT _ (Expr.Compare _ [.Lt] _ _) _ _ _); refine' et_lt ?xa ?xb; (case xa => walk_at "xv"); (case xb => walk_at "xv"))
  | ((with_reducible show EvT _ (Expr.Compare _ [.LtE] _ _) _ _ _); refine' et_le ?xa ?xb; (case xa => walk_at "xv"); (case xb => walk_at "xv"))
  | ((with_reducible show EvT _ (Expr.Compare _ [.Gt] _ _) _ _ _); refine' et_gt ?xa ?xb; (case xa => walk_at "xv"); (case xb => walk_at "xv"))
  | ((with_reducible show EvT _ (Expr.Compare _ [.GtE] _ _) _ _ _); refine' et_ge ?xa ?xb; (case xa => walk_at "xv"); (case xb => walk_at "xv"))
  | ((with_reducible show EvT _ (Expr.Compare _ [.Eq] _ _) _ _ _); first | (refine' et_eqI ?xa ?xb; (case xa => walk_at "xv"); (case xb => walk_at "xv")) | (refine' et_eqS ?xa ?xb; (case xa => walk_at "xv"); (case xb => walk_at "xv")))
  | ((with_reducible show EvT _ (Expr.Compare _ [.NotEq] _ _) _ _ _); first | (refine' et_neI ?xa ?xb; (case xa => walk_at "xv"); (case xb => walk_at "xv")) | (refine' et_neS ?xa ?xb; (case xa => walk_at "xv"); (case xb => walk_at "xv")))
  | ((with_reducible show EvT _ (Expr.Compare _ [.Is] _ _) _ _ _); refine' et_isN ?xa ?xb; (case xa => walk_at "xv"); (case xb => walk_at "xv"))
  | ((with_reducible show EvT _ (Expr.Compare _ [.IsNot] _ _) _ _ _); refine' et_notN ?xa ?xb; (case xa => walk_at "xv"); (case xb => walk_at "xv"))
  | ((with_reducible show EvT _ (Expr.UnaryOp .Not _ _) _ _ _); apply et_not; walk_at "xt"))
section
variable {P : Program} {w : World} {K : PySem.W.Frag} {mg : Str → Option Value} {base : Heap}
/-! what is due -/
def SpDue (K : PySem.W.Frag) : Sp := fun vs H Q _ => ∃ G a s x, Ext G H ∧ TabsOk K H ∧ vs = [.ref a, .str x.w, .str x.k, .int x.v] ∧ G a = some (.dK (kvS s)) ∧ (s.map (·.1)).Nodup ∧ s.length ≤ 900 ∧
  ∀ p t G' H2, Fr K G H G' H2 → H t = none → SqT K G' p [.ref t, oV (stepS s x).2] → G' t = some (.dK (kvS (stepS s x).1)) → Q (.ref p) H2
local macro_rules | `(tactic| walk_at "nm") => `(tactic| first
  | ((with_reducible show EvD _ (Expr.Name "_law_store_here" _) _ _ _); refine' ev_name 0 ?r ?h; (case h => rfl); (case r => walk_at "dp"))
  | ((with_reducible show EvD _ (Expr.Name "_law_word" _) _ _ _); refine' ev_name 1 ?r ?h; (case h => rfl); (case r => walk_at "dp"))
  | ((with_reducible show EvD _ (Expr.Name "_law_key" _) _ _ _); refine' ev_name 2 ?r ?h; (case h => rfl); (case r => walk_at "dp"))
  | ((with_reducible show EvD _ (Expr.Name "_law_value" _) _ _ _); refine' ev_name 3 ?r ?h; (case h => rfl); (case r => walk_at "dp"))
  | ((with_reducible show EvD _ (Expr.Name "_law_due_here" _) _ _ _); refine' ev_name 4 ?r ?h; (case h => rfl); (case r => walk_at "dp"))
  | ((with_reducible show EvD _ (Expr.Name "_law_one" _) _ _ _); refine' ev_name 5 ?r ?h; (case h => rfl); (case r => walk_at "dp"))
  | ((with_reducible show EvD _ (Expr.Name "_law_ahead" _) _ _ _); refine' ev_name 6 ?r ?h; (case h => rfl); (case r => walk_at "dp")))

theorem ok_due (M : MF K mg) : FnOk P w K mg base CX0 1 M.a__law_due M.d__law_due ["_law_store_here", "_law_word", "_law_key", "_law_value"] (SpDue K) := by
  refine M.F__law_due.ok sc__law_due (fun vs H Q E h => ?_) (fun cdv A outer s_ H vs Q E hr h => ?_)
  · obtain ⟨G, a, s, x, _, _, e, _⟩ := h
    rw [e]; rfl
  obtain ⟨G, a, s, x, e0, t0, rfl, ga, hn, sl, q⟩ := h
  refine ⟨_, pss_b, ?_⟩
  have nd := sc__law_due.nd
  have hu := hu_of hr
  refine bb_new 4 nd (Hb := G) en_dict e0 t0 rfl (fun t H1 e1 t1 ht h1t => ?_)
  have gt := e0.fresh ht
  have ha : H a = some (.dK (kvS s)) := e0.keep _ _ ga rfl
  have nat_ : a ≠ t := fun z => by rw [z, ht] at ha; cases ha
  have h1a := e1.keep _ _ ha rfl
  refine bb_forD (s := s) (t := a) 5 nd (fun od j σ' H' => (∃ o, σ' = [some (.ref a), some (.str x.w), some (.str x.k), some (.int x.v), some (.ref t), o, none]) ∧ H' a = some (.frz od (.dK (kvS s))) ∧ TabsOk K H' ∧ Fr K G H G (upd H' a (.dK (kvS s))) ∧ H' t = some (.dK (kvS (s.take j)))) (fun H => ev_var 0 rfl) t1 h1a (fun od H2 e2 t2 => ?_) (fun od j σ' H' hj p => p.2.1) (fun od j k n σ' H' hj p => ?_) (fun od σ' H' p => ?_) PassesOwn.never
  · refine ⟨⟨none, rfl⟩, e2.keep _ _ upd_same rfl, t2, ?_, e2.keep _ _ (by rw [upd_ne (Ne.symm nat_)]; exact h1t) rfl⟩
    have e3 : Ext H1 (upd H2 a (.dK (kvS s))) := by
      have := Ext.both (p := a) (o := .dK (kvS s)) e2
      rw [upd_upd, upd_self h1a] at this
      exact this
    exact (Fr.refl e0 t0).step (e0.trans (e1.trans e3)) (e1.trans e3) (t2.upd rfl)
  · obtain ⟨⟨o, rfl⟩, hf, tk, F, hl⟩ := p
    have gf : Ext (upd G a (.frz od (.dK (kvS s)))) H' := by
      have := Ext.both (p := a) (o := .frz od (.dK (kvS s))) F.g2
      rw [upd_upd, upd_self hf] at this
      exact this
    have hv := nd_val hn j k n hj
    have jl := (List.getElem?_eq_some_iff.mp hj).1
    refine bb_setD (Hb := upd G a (.frz od (.dK (kvS s)))) (s := s.take j) (k := k) (n := n) hu (EvD.toInt (ed_ixR (s := s) (k := k) hu (ev_var 0 rfl) (by walk_at "nm") (.inr ⟨od, upd_same⟩) hv)) (ev_var 4 rfl) (by walk_at "nm") gf tk hl (by rw [List.length_take]; omega) (fun H2 e2 t2 => bb_nil ⟨⟨_, rfl⟩, ?_, t2.upd rfl, ?_, ?_⟩)
    · rw [upd_ne nat_]; exact e2.keep _ _ hf rfl
    · rw [upd_comm (Ne.symm nat_)]
      have e3 : Ext (upd H' a (.dK (kvS s))) (upd H2 a (.dK (kvS s))) := e2.both
      exact (F.step (F.g2.trans e3) e3 (t2.upd rfl)).put rfl ht gt
    · rw [upd_same, take_put hn hj]
  obtain ⟨⟨o, rfl⟩, hf, tk, F, hl⟩ := p
  rw [List.take_length] at hl
  have hl : (upd H' a (.dK (kvS s))) t = some (.dK (kvS s)) := by rw [upd_ne (Ne.symm nat_)]; exact hl
  have gaU : (upd H' a (.dK (kvS s))) a = some (.dK (kvS s)) := upd_same
  generalize (upd H' a (.dK (kvS s))) = U at F hl gaU
  clear hf tk e1 t1 h1t h1a
  refine bb_val 6 nd (Hb := G) (v := .non) (Ev.imp ev_non fun u _ _ r => by cases r; rfl) F.g2 F.tok (fun H3 e3 e4 t3 => ?_)
  have F3 := F.step e3 e4 t3
  have h3 := e4.keep _ _ hl rfl
  refine bb_ifM (Hb := G) (fun σ' H' => σ' = [some (.ref a), some (.str x.w), some (.str x.k), some (.int x.v), some (.ref t), o, some (oV (valS s x.k))] ∧ Fr K G H G H' ∧ H' t = some (.dK (kvS s))) (et_inD (s := s) (k := x.k) hu (by walk_at "nm") (ev_var 0 rfl) (.inl ga)) F3.g2 F3.tok (fun c H4 e5 e6 t4 => ?_) (fun c H4 e5 e6 t4 => bb_nil ⟨?_, F3.step e5 e6 t4, e6.keep _ _ h3 rfl⟩) (fun σ' H' p => ?_)
  · obtain ⟨i, hi⟩ := Option.isSome_iff_exists.mp c
    refine bb_val 6 nd (Hb := G) (EvD.toInt (ed_ix (s := s) (k := x.k) hu (ev_var 0 rfl) (by walk_at "nm") ga hi)) e5 t4 (fun H5 e7 e8 t5 => bb_nil ⟨?_, F3.step e7 (e6.trans e8) t5, (e6.trans e8).keep _ _ h3 rfl⟩)
    rw [hi]; rfl
  · cases hi : valS s x.k with
    | none => rfl
    | some i => rw [hi] at c; cases c
  clear F F3 hl h3 e3 e4 t3 gaU
  obtain ⟨rfl, F, hl⟩ := p
  refine bb_if0 (Hb := G) (et_eqS (by walk_at "nm") ev_str) F.g2 F.tok (fun c H3 e3 e4 t3 => ?_) (fun c H3 e3 e4 t3 => ?_)
  · have c' : x.w = "put" := of_decide_eq_true c
    refine bb_setD (Hb := G) (s := s) (k := x.k) (n := x.v) hu (EvD.toInt (by walk_at "nm")) (ev_var 4 rfl) (by walk_at "nm") e3 t3 (e4.keep _ _ hl rfl) (by omega) (fun H4 e5 t4 => ?_)
    have F4 : Fr K G H _ (upd H4 t (.dK (kvS (putS s x.k x.v)))) := ((F.step (e3.trans e5) (e4.trans e5) t4).put rfl ht gt).add upd_same rfl ht gt
    refine bb_retP (Hb := upd G t (.dK (kvS (putS s x.k x.v)))) (ev_tupV (eav_cons (ev_var 4 rfl) (eav_cons (ev_var 6 rfl) eav_nil)) (by show 2 ≤ 100000; decide)) F4.g2 F4.tok (fun v G5 H5 f5 p => ?_)
    obtain ⟨pp, rfl, hp⟩ := p
    have z := q pp t G5 H5 (F4.trans f5) ht
    rw [stepS_put c'] at z
    exact z hp (f5.g.keep _ _ upd_same rfl)
  have c1 : ¬ x.w = "put" := of_decide_eq_false c
  have F2 := F.step e3 e4 t3
  have h2 := e4.keep _ _ hl rfl
  clear F hl e3 e4 t3 c
  refine bb_if0 (Hb := G) (et_eqS (by walk_at "nm") ev_str) F2.g2 F2.tok (fun c H4 e3 e4 t3 => ?_) (fun c H4 e3 e4 t3 => ?_)
  · have c' : x.w = "away" := of_decide_eq_true c
    refine bb_popD (Hb := G) (s := s) (k := x.k) (ev_var 4 rfl) (by walk_at "nm") ev_non e3 t3 (e4.keep _ _ h2 rfl) (fun H5 e5 t4 => ?_)
    have F4 : Fr K G H _ (upd H5 t (.dK (kvS (dropS s x.k)))) := ((F2.step (e3.trans e5) (e4.trans e5) t4).put rfl ht gt).add upd_same rfl ht gt
    refine bb_retP (Hb := upd G t (.dK (kvS (dropS s x.k)))) (ev_tupV (eav_cons (ev_var 4 rfl) (eav_cons (ev_var 6 rfl) eav_nil)) (by show 2 ≤ 100000; decide)) F4.g2 F4.tok (fun v G5 H6 f5 p => ?_)
    obtain ⟨pp, rfl, hp⟩ := p
    have z := q pp t G5 H6 (F4.trans f5) ht
    rw [stepS_away c'] at z
    exact z hp (f5.g.keep _ _ upd_same rfl)
  have c2 : ¬ x.w = "away" := of_decide_eq_false c
  have F3 := F2.step e3 e4 t3
  have h3 := e4.keep _ _ h2 rfl
  clear F2 h2 e3 e4 t3 c
  refine bb_ifM (Hb := G) (fun σ' H' => σ' = [some (.ref a), some (.str x.w), some (.str x.k), some (.int x.v), some (.ref t), o, some (oV (valS s x.k))] ∧ ∃ s' n, Fr K G H G H' ∧ H' t = some (.dK (kvS s')) ∧ stepS s x = (s', some n) ∧ valS s' x.k = some n) (et_w (ew_and (et_eqS (by walk_at "nm") ev_str) fun _ => ew_and1 (et_notN (EvV.dat (ev_var 6 rfl) (dp_oV (valS s x.k))) ev_non))) F3.g2 F3.tok (fun c H5 e3 e4 t3 => ?_) (fun c H5 e3 e4 t3 => ?_) (fun σ' H' p => ?_)
  · rw [Bool.and_eq_true, isNone_oD] at c
    have c' : x.w = "add" := of_decide_eq_true c.1
    cases e : valS s x.k with
    | none => rw [e] at c; exact absurd c.2 (by decide)
    | some i =>
      refine bb_setD (Hb := G) (s := s) (k := x.k) (n := i + x.v) hu (EvD.toInt (ev_add (EvV.dat (ev_var 6 rfl) (.int i)) (by walk_at "nm"))) (ev_var 4 rfl) (by walk_at "nm") e3 t3 (e4.keep _ _ h3 rfl) (by omega) (fun H6 e6 t6 => bb_nil ⟨rfl, _, _, (F3.step (e3.trans e6) (e4.trans e6) t6).put rfl ht gt, upd_same, ?_, valS_put _ _ _⟩)
      rw [stepS_add c', e]
      rfl
  · refine bb_if0 (Hb := G) (et_isN (EvV.dat (ev_var 6 rfl) (dp_oV (valS s x.k))) ev_non) e3 t3 (fun c4 H8 e7 e8 t7 => ?_) (fun c4 H8 e7 e8 t7 => bb_nil ⟨rfl, ?_⟩)
    · refine bb_setD (Hb := G) (s := s) (k := x.k) (n := x.v) hu (EvD.toInt (by walk_at "nm")) (ev_var 4 rfl) (by walk_at "nm") e7 t7 ((e4.trans e8).keep _ _ h3 rfl) (by omega) (fun H9 e9 t8 => bb_nil (bb_nil ⟨rfl, _, _, (F3.step (e7.trans e9) ((e4.trans e8).trans e9) t8).put rfl ht gt, upd_same, ?_, valS_put _ _ _⟩))
      rw [isNone_oD] at c4
      cases e : valS s x.k with
      | none => exact stepS_none c1 c2 e
      | some i => rw [e] at c4; cases c4
    · rw [isNone_oD] at c4
      cases e : valS s x.k with
      | none => rw [e] at c4; cases c4
      | some i =>
        refine ⟨s, i, F3.step e7 (e4.trans e8) t7, (e4.trans e8).keep _ _ h3 rfl, stepS_some c1 c2 (fun z => ?_) e, e⟩
        rw [e] at c
        rw [z, decide_eq_true rfl] at c
        exact Bool.noConfusion c
  · obtain ⟨rfl, s', n, F, h8, st, hv⟩ := p
    have F4 := F.add h8 rfl ht gt
    refine bb_retP (Hb := upd G t (.dK (kvS s'))) (ev_tupV (eav_cons (ev_var 4 rfl) (eav_cons (EvD.toInt (ed_ix (s := s') (k := x.k) hu (ev_var 4 rfl) (by walk_at "nm") upd_same hv)) eav_nil)) (by show 2 ≤ 100000; decide)) F4.g2 F4.tok (fun v G5 H6 f5 p => ?_)
    obtain ⟨pp, rfl, hp⟩ := p
    have z := q pp t G5 H6 (F4.trans f5) ht
    rw [st] at z
    exact z hp (f5.g.keep _ _ upd_same rfl)
end
end Pf

namespace Pf
open PySem L2 C
/-! ### words of this text: «dp» closes what data is, «xv» walks an expression, «xt» a test -/
local macro_rules | `(tactic| walk_at "dp5") => `(tactic| assumption)
local macro_rules | `(tactic| walk_at "dp4") => `(tactic| first
  | assumption
  | (refine Ext.dp (Fr.g (by assumption)) ?_; walk_at "dp5")
  | (refine Ext.dp (by assumption) ?_; walk_at "dp5"))
local macro_rules | `(tactic| walk_at "dp3") => `(tactic| first
  | assumption
  | (refine Ext.dp (Fr.g (by assumption)) ?_; walk_at "dp4")
  | (refine Ext.dp (by assumption) ?_; walk_at "dp4"))
local macro_rules | `(tactic| walk_at "dp2") => `(tactic| first
  | assumption
  | (refine Ext.dp (Fr.g (by assumption)) ?_; walk_at "dp3")
  | (refine Ext.dp (by assumption) ?_; walk_at "dp3"))
local macro_rules | `(tactic| walk_at "dp1") => `(tactic| first
  | assumption
  | (refine Ext.dp (Fr.g (by assumption)) ?_; walk_at "dp2")
  | (refine Ext.dp (by assumption) ?_; walk_at "dp2"))
local macro_rules | `(tactic| walk_at "dp") => `(tactic| first
  | assumption
  | exact Dp.int _ | exact Dp.str _ | exact Dp.bl _ | exact Dp.non
  | (refine Ext.dp (Fr.g (by assumption)) ?_; walk_at "dp1")
  | (refine Ext.dp (by assumption) ?_; walk_at "dp1"))
local macro_rules | `(tactic| walk_at "side") => `(tactic| first | assumption | decide | omega | (simp only [List.length_cons, List.length_nil]; omega) | (simp only [Int.natAbs]; omega))
local macro_rules | `(tactic| walk_at "xv") => `(tactic| first
  | ((with_reducible show EvD _ (Expr.Name _ _) _ _ _); walk_at "nm")
  | ((with_reducible show EvD _ (Expr.Constant _ _ _) _ _ _); first | exact ev_int | exact ev_str | exact ev_bl | exact ev_non)
  | ((with_reducible show EvD _ (Expr.BinOp _ .Add _ _) _ _ _); first | (apply ev_add; walk_at "xv"; walk_at "xv") | (apply ev_catS; walk_at "xv"; walk_at "xv"; walk_at "side"))
  | ((with_reducible show EvD _ (Expr.BinOp _ .Sub _ _) _ _ _); apply ev_sub; walk_at "xv"; walk_at "xv")
  | ((with_reducible show EvD _ (Expr.BinOp _ .Mod _ _) _ _ _); apply ev_mod; walk_at "xv"; walk_at "xv"; walk_at "side")
  | ((with_reducible show EvD _ (Expr.BinOp _ .FloorDiv _ _) _ _ _); apply ev_div; walk_at "xv"; walk_at "xv"; walk_at "side")
  | ((with_reducible show EvD _ (Expr.BinOp _ .Mult _ _) _ _ _); first | (apply ev_mulR; walk_at "xv"; walk_at "xv"; walk_at "side") | (apply ev_mulL; walk_at "xv"; walk_at "xv"; walk_at "side"))
  | ((with_reducible show EvD _ (Expr.Tuple _ _ _) _ _ _); apply ev_tup; walk_at "xa"; walk_at "side")
  | ((with_reducible show EvD _ (Expr.List _ _) _ _ _); apply ev_lst; walk_at "xa"; walk_at "side")
  | walk_at "xown")
local macro_rules | `(tactic| walk_at "xa") => `(tactic| first | exact ea_nil | (refine' ea_cons ?xa ?xb; (case xa => walk_at "xv"); (case xb => walk_at "xa")))
local macro_rules | `(tactic| walk_at "xt") => `(tactic| first
  | ((with_reducible show EvT _ (Expr.Compare _ [.Lt] _ _) _ _ _); refine' et_lt ?xa ?xb; (case xa => walk_at "xv"); (case xb => walk_at "xv"))
  | ((with_reducible show EvT _ (Expr.Compare _ [.LtE] _ _) _ _ _); refine' et_le ?xa ?xb; (case xa => walk_at "xv"); (case xb => walk_at "xv"))
  | ((with_reducible show EvT _ (Expr.Compare _ [.Gt] _ _) _ _ _); refine' et_gt ?xa ?xb; (case xa => walk_at "xv"); (case xb => walk_at "xv"))
  | ((with_reducible show EvT _ (Expr.Compare _ [.GtE] _ _) _ _ _); refine' et_ge ?xa ?xb; (case xa => walk_at "xv"); (case xb => walk_at "xv"))
  | ((with_reducible show EvT _ (Expr.Compare _ [.Eq] _ _) _ _ _); first | (refine' et_eqI ?xa ?xb; (case xa => walk_at "xv"); (case xb => walk_at "xv")) | (refine' et_eqS ?xa ?xb; (case xa => walk_at "xv"); (case xb => walk_at "xv")))
  | ((with_reducible show EvT _ (Expr.Compare _ [.NotEq] _ _) _ _ _); first | (refine' et_neI ?xa ?xb; (case xa => walk_at "xv"); (case xb => walk_at "xv")) | (refine' et_neS ?xa ?xb; (case xa => walk_at "xv"); (case xb => walk_at "xv")))
  | ((with_reducible show EvT _ (Expr.Compare _ [.Is] _ _) _ _ _); refine' et_isN ?xa ?xb; (case xa => walk_at "xv"); (case xb => walk_at "xv"))
  | ((with_reducible show EvT _ (Expr.Compare _ [.IsNot] _ _) _ _ _); refine' et_notN ?xa ?xb; (case xa => walk_at "xv"); (case xb => walk_at "xv"))
  | ((with_reducible show EvT _ (Expr.UnaryOp .Not _ _) _ _ _); apply et_not; walk_at "xt"))
section
variable {P : Program} {w : World} {K : PySem.W.Frag} {mg : Str → Option Value} {base : Heap}
/-! two stores the same -/
def SpSame (K : PySem.W.Frag) : Sp := fun vs H Q _ => ∃ G a b s, Ext G H ∧ TabsOk K H ∧ vs = [.ref a, .ref b] ∧ G a = some (.dK (kvS s)) ∧ G b = some (.dK (kvS s)) ∧ a ≠ b ∧ (s.map (·.1)).Nodup ∧ (∀ z ∈ s.map (·.1), okS z = true) ∧ s.length < 64 ∧
  ∀ v G' H2, Fr K G H G' H2 → Dp K G' v (.bool true) → Q v H2
theorem keys_good {l : List Str} (h : ∀ z ∈ l, okS z = true) : good 1 (.list ((srtS l).map PyData.str)) = true := by
  show ((srtS l).map PyData.str).all (good 0) = true
  rw [List.all_eq_true]
  intro d hd
  obtain ⟨z, hz, rfl⟩ := List.mem_map.mp hd
  exact h z (srtS_mem hz)
local macro_rules | `(tactic| walk_at "nm") => `(tactic| first
  | ((with_reducible show EvD _ (Expr.Name "_law_found" _) _ _ _); refine' ev_name 0 ?r ?h; (case h => rfl); (case r => walk_at "dp"))
  | ((with_reducible show EvD _ (Expr.Name "_law_due_here" _) _ _ _); refine' ev_name 1 ?r ?h; (case h => rfl); (case r => walk_at "dp"))
  | ((with_reducible show EvD _ (Expr.Name "_law_key" _) _ _ _); refine' ev_name 2 ?r ?h; (case h => rfl); (case r => walk_at "dp")))

theorem ok_same (M : MF K mg) : FnOk P w K mg base CX0 2 M.a__law_same M.d__law_same ["_law_found", "_law_due_here"] (SpSame K) := by
  refine M.F__law_same.ok sc__law_same (fun vs H Q E h => ?_) (fun cdv A outer s_ H vs Q E hr h => ?_)
  · obtain ⟨G, a, b, s, _, _, e, _⟩ := h
    rw [e]; rfl
  obtain ⟨G, a, b, s, e0, t0, rfl, ga, gb, nab, hn, hk, sl, q⟩ := h
  refine ⟨_, pss_b, ?_⟩
  have nd := sc__law_same.nd
  have hu := hu_of hr
  have hsh := good_shaped (keys_good hk) (by decide)
  refine bb_if0 (Hb := G) (et_w (ew_or (et_not (et_val (et_isiV (tn := "dict") (kk := true) (ev_var 0 rfl) (fun G0 E => .base (.dK (E.keep _ _ ga rfl))) (by decide +kernel) M.z_isinstance M.z_dict (by decide +kernel)))) fun _ => ew_or1 (et_cmp (op := .NotEq) (ev_sortedD (s := s) (ev_var 0 rfl) ga sl M.z_sorted) (ev_sortedD (s := s) (ev_var 1 rfl) gb sl M.z_sorted) (opd_neD hr.units hsh hsh) rfl))) e0 t0 (fun c H2 e1 e2 t2 => absurd c (by rw [SeqAt.eqv_refl _ (SeqAt.canLay_of_shaped hsh)]; decide)) (fun c H2 e1 e2 t2 => ?_)
  have h2b := e1.keep _ _ gb rfl
  refine bb_forD (s := s) (t := b) 2 nd (fun od j σ' H' => (∃ o, σ' = [some (.ref a), some (.ref b), o]) ∧ H' b = some (.frz od (.dK (kvS s))) ∧ TabsOk K H' ∧ Ext (upd H2 b (.frz od (.dK (kvS s)))) H') (fun H => ev_var 1 rfl) t2 h2b (fun od H3 e3 t3 => ⟨⟨none, rfl⟩, e3.keep _ _ upd_same rfl, t3, e3⟩) (fun od j σ' H' hj p => p.2.1) (fun od j k n σ' H' hj p => ?_) (fun od σ' H' p => ?_) PassesOwn.never
  · obtain ⟨⟨o, rfl⟩, hf, tk, ee⟩ := p
    have gf : Ext (upd G b (.frz od (.dK (kvS s)))) H' := (Ext.both e1).trans ee
    have hv := nd_val hn j k n hj
    refine bb_if0 (Hb := upd G b (.frz od (.dK (kvS s)))) (et_w (ew_or (et_not (et_val (ev_call (ok_whole M) (hr.mono (by decide)) rfl M.m__law_whole M.F__law_whole.kp M.b__law_whole pass0 (ea_cons (ed_ixR (s := s) (k := k) hu (ev_var 0 rfl) (by walk_at "nm") (.inl (by rw [upd_ne nab]; exact ga)) hv) ea_nil) ⟨n, rfl, rfl⟩ fun _ _ => trivial))) fun _ => ew_or1 (et_neI (ed_ixR (s := s) (k := k) hu (ev_var 0 rfl) (by walk_at "nm") (.inl (by rw [upd_ne nab]; exact ga)) hv) (ed_ixR (s := s) (k := k) hu (ev_var 1 rfl) (by walk_at "nm") (.inr ⟨od, upd_same⟩) hv)))) gf tk (fun c H3 e3 e4 t3 => absurd c (by rw [decide_eq_true rfl]; decide)) (fun c H3 e3 e4 t3 => bb_nil ⟨⟨_, rfl⟩, e4.keep _ _ hf rfl, t3, ee.trans e4⟩)
  · obtain ⟨⟨o, rfl⟩, hf, tk, ee⟩ := p
    have e3 : Ext H2 (upd H' b (.dK (kvS s))) := by
      have := Ext.both (p := b) (o := .dK (kvS s)) ee
      rw [upd_upd, upd_self h2b] at this
      exact this
    exact bb_ret (Hb := G) (d := .bool true) ev_bl (e1.trans e3) (tk.upd rfl) (fun v G2 H3 f r => q v G2 H3 (f.pre (e2.trans e3)) r)
end
end Pf

namespace Pf
open PySem L2 C
/-! ### words of this text: «dp» closes what data is, «xv» walks an expression, «xt» a test -/
local macro_rules | `(tactic| walk_at "dp5") => `(tactic| assumption)
local macro_rules | `(tactic| walk_at "dp4") => `(tactic| first
  | assumption
  | (refine Ext.dp (Fr.g (by assumption)) ?_; walk_at "dp5")
  | (refine Ext.dp (by assumption) ?_; walk_at "dp5"))
local macro_rules | `(tactic| walk_at "dp3") => `(tactic| first
  | assumption
  | (refine Ext.dp (Fr.g (by assumption)) ?_; walk_at "dp4")
  | (refine Ext.dp (by assumption) ?_; walk_at "dp4"))
local macro_rules | `(tactic| walk_at "dp2") => `(tactic| first
  | assumption
  | (refine Ext.dp (Fr.g (by assumption)) ?_; walk_at "dp3")
  | (refine Ext.dp (by assumption) ?_; walk_at "dp3"))
local macro_rules | `(tactic| walk_at "dp1") => `(tactic| first
  | assumption
  | (refine Ext.dp (Fr.g (by assumption)) ?_; walk_at "dp2")
  | (refine Ext.dp (by assumption) ?_; walk_at "dp2"))
local macro_rules | `(tactic| walk_at "dp") => `(tactic| first
  | assumption
  | exact Dp.int _ | exact Dp.str _ | exact Dp.bl _ | exact Dp.non
  | (refine Ext.dp (Fr.g (by assumption)) ?_; walk_at "dp1")
  | (refine Ext.dp (by assumption) ?_; walk_at "dp1"))
local macro_rules | `(tactic| walk_at "side") => `(tactic| first | assumption | decide | omega | (simp only [List.length_cons, List.length_nil]; omega) | (simp only [Int.natAbs]; omega))
local macro_rules | `(tactic| walk_at "xv") => `(tactic| first
  | ((with_reducible show EvD _ (Expr.Name _ _) _ _ _); walk_at "nm")
  | ((with_reducible show EvD _ (Expr.Constant _ _ _) _ _ _); first | exact ev_int | exact ev_str | exact ev_bl | exact ev_non)
  | ((with_reducible show EvD _ (Expr.BinOp _ .Add _ _) _ _ _); first | (apply ev_add; walk_at "xv"; walk_at "xv") | (apply ev_catS; walk_at "xv"; walk_at "xv"; walk_at "side"))
  | ((with_reducible show EvD _ (Expr.BinOp _ .Sub _ _) _ _ _); apply ev_sub; walk_at "xv"; walk_at "xv")
  | ((with_reducible show EvD _ (Expr.BinOp _ .Mod _ _) _ _ _); apply ev_mod; walk_at "xv"; walk_at "xv"; walk_at "side")
  | ((with_reducible show EvD _ (Expr.BinOp _ .FloorDiv _ _) _ _ _); apply ev_div; walk_at "xv"; walk_at "xv"; walk_at "side")
  | ((with_reducible show EvD _ (Expr.BinOp _ .Mult _ _) _ _ _); first | (apply ev_mulR; walk_at "xv"; walk_at "xv"; walk_at "side") | (apply ev_mulL; walk_at "xv"; walk_at "xv"; walk_at "side"))
  | ((with_reducible show EvD _ (Expr.Tuple _ _ _) _ _ _); apply ev_tup; walk_at "xa"; walk_at "side")
  | ((with_reducible show EvD _ (Expr.List _ _) _ _ _); apply ev_lst; walk_at "xa"; walk_at "side")
  | walk_at "xown")
local macro_rules | `(tactic| walk_at "xa") => `(tactic| first | exact ea_nil | (refine' ea_cons ?xa ?xb; (case xa => walk_at "xv"); (case xb => walk_at "xa")))
local macro_rules | `(tactic| walk_at "xt") => `(tactic| first
  | ((with_reducible show EvT _ (Expr.Compare _ [.Lt] _ _) _ _ _); refine' et_lt ?xa ?xb; (case xa => walk_at "xv"); (case xb => walk_at "xv"))
  | ((with_reducible show EvT _ (Expr.Compare _ [.LtE] _ _) _ _ _); refine' et_le ?xa ?xb; (case xa => walk_at "xv"); (case xb => walk_at "xv"))
  | ((with_reducible show EvT _ (Expr.Compare _ [.Gt] _ _) _ _ _); refine' et_gt ?xa ?xb; (case xa => walk_at "xv"); (case xb => walk_at "xv"))
  | ((with_reducible show EvT _ (Expr.Compare _ [.GtE] _ _) _ _ _); refine' et_ge ?xa ?xb; (case xa => walk_at "xv"); (case xb => walk_at "xv"))
  | ((with_reducible show EvT _ (Expr.Compare _ [.Eq] _ _) _ _ _); first | (refine' et_eqI ?xa ?xb; (case xa => walk_at "xv"); (case xb => walk_at "xv")) | (refine' et_eqS ?xa ?xb; (case xa => walk_at "xv"); (case xb => walk_at "xv")))
  | ((with_reducible show EvT _ (Expr.Compare _ [.NotEq] _ _) _ _ _); first | (refine' et_neI ?xa ?xb; (case xa => walk_at "xv"); (case xb => walk_at "xv")) | (refine' et_neS ?xa ?xb; (case xa => walk_at "xv"); (case xb => walk_at "xv")))
  | ((with_reducible show EvT _ (Expr.Compare _ [.Is] _ _) _ _ _); refine' et_isN ?xa ?xb; (case xa => walk_at "xv"); (case xb => walk_at "xv"))
  | ((with_reducible show EvT _ (Expr.Compare _ [.IsNot] _ _) _ _ _); refine' et_notN ?xa ?xb; (case xa => walk_at "xv"); (case xb => walk_at "xv"))
  | ((with_reducible show EvT _ (Expr.UnaryOp .Not _ _) _ _ _); apply et_not; walk_at "xt"))
section
variable {P : Program} {w : World} {K : PySem.W.Frag} {mg : Str → Option Value} {base : Heap}
/-! the law -/
variable {X : Cx} {σ : L2.St} {e1 e2 : Expr} {pos p p2 : Pos} {H : Hp}
theorem ev_same (M : MF K mg) (hK : X.K = K) (hmg : X.mg = mg) : True := trivial
def Rlaw (ds : List PyData) (d : PyData) : Prop := ∃ ns, ds = [dInts ns] ∧ d = .bool true
def wordN (n : Int) : Str := wordsL.getD (n % 4).toNat (S [])
theorem wordN_at (n : Int) : atI (wordsL.map PyData.str) (n % 4) = some (.str (wordN n)) := by
  have i2 := Int.emod_nonneg n (show (4 : Int) ≠ 0 by decide)
  have i3 := Int.emod_lt_of_pos n (show (0 : Int) < 4 by decide)
  exact atI_map (f := PyData.str) i2 (by show _ < ((4 : Nat) : Int); omega) (S [])
local macro_rules | `(tactic| walk_at "nm") => `(tactic| first
  | ((with_reducible show EvD _ (Expr.Name "_law_script" _) _ _ _); refine' ev_name 0 ?r ?h; (case h => rfl); (case r => walk_at "dp"))
  | ((with_reducible show EvD _ (Expr.Name "_law_keys_here" _) _ _ _); refine' ev_name 1 ?r ?h; (case h => rfl); (case r => walk_at "dp"))
  | ((with_reducible show EvD _ (Expr.Name "_law_store_here" _) _ _ _); refine' ev_name 2 ?r ?h; (case h => rfl); (case r => walk_at "dp"))
  | ((with_reducible show EvD _ (Expr.Name "_law_number_here" _) _ _ _); refine' ev_name 3 ?r ?h; (case h => rfl); (case r => walk_at "dp"))
  | ((with_reducible show EvD _ (Expr.Name "_law_word" _) _ _ _); refine' ev_name 4 ?r ?h; (case h => rfl); (case r => walk_at "dp"))
  | ((with_reducible show EvD _ (Expr.Name "_law_key" _) _ _ _); refine' ev_name 5 ?r ?h; (case h => rfl); (case r => walk_at "dp"))
  | ((with_reducible show EvD _ (Expr.Name "_law_value" _) _ _ _); refine' ev_name 6 ?r ?h; (case h => rfl); (case r => walk_at "dp"))
  | ((with_reducible show EvD _ (Expr.Name "_law_deed" _) _ _ _); refine' ev_name 7 ?r ?h; (case h => rfl); (case r => walk_at "dp"))
  | ((with_reducible show EvD _ (Expr.Name "_law_held" _) _ _ _); refine' ev_name 8 ?r ?h; (case h => rfl); (case r => walk_at "dp"))
  | ((with_reducible show EvD _ (Expr.Name "_law_found" _) _ _ _); refine' ev_name 9 ?r ?h; (case h => rfl); (case r => walk_at "dp"))
  | ((with_reducible show EvD _ (Expr.Name "_law_due_here" _) _ _ _); refine' ev_name 10 ?r ?h; (case h => rfl); (case r => walk_at "dp")))

theorem ok_law (M : MF K mg) : FnOk P w K mg base CX0 4 M.a_law M.d_law ["_law_script"] (SpR K (fun _ => True) Rlaw) := by
  refine M.F_law.ok sc_law (fun vs H Q E h => ?_) (fun cdv A outer s H vs Q E hr h => ?_)
  · obtain ⟨G, ds, d, _, _, r, _, ⟨ns, e, _⟩, _⟩ := h
    rw [all_len r, e]; rfl
  obtain ⟨G, ds, d, e0, t0, r, T, ⟨ns, rfl, rfl⟩, q⟩ := h
  obtain ⟨v1, rfl, r1⟩ := all1 r
  refine ⟨_, pss_b, ?_⟩
  have nd := sc_law.nd
  have hu := hu_of hr
  refine bb_dat 1 nd (Hb := G) (d := dStrs (keysF (mixed (cellAt ns 0) 1))) (ev_call (ok_keys M) (hr.mono (by decide)) rfl M.m__law_keys M.F__law_keys.kp M.b__law_keys pass0 (ea_cons (ev_call (ok_mix M) (hr.mono (by decide)) rfl M.m__law_mixed M.F__law_mixed.kp M.b__law_mixed pass0 (ea_cons (ev_call (ok_cell M) (hr.mono (by decide)) rfl M.m__law_cell_at M.F__law_cell_at.kp M.b__law_cell_at pass0 (ea_cons (by walk_at "nm") (ea_cons ev_int ea_nil)) ⟨ns, 0, rfl, rfl⟩ fun _ _ => trivial) (ea_cons ev_int ea_nil)) ⟨_, _, rfl, rfl⟩ fun _ _ => trivial) ea_nil) ⟨_, rfl, rfl⟩ fun _ _ => trivial) e0 t0 (fun v2 G1 H1 f1 r2 => ?_)
  have hks := keysF_ok (mixed (cellAt ns 0) 1)
  have hkl : (keysF (mixed (cellAt ns 0) 1)).length = 4 := rfl
  generalize keysF (mixed (cellAt ns 0) 1) = ks at r2 hks hkl
  have hko : ∀ z ∈ ks, okS z = true := fun z hz => keyS_okS (hks z hz)
  replace r1 := f1.g.dp r1
  refine bb_asgE 2 nd (bE_call (H := G1) (P := fun us G => DpAll K G us [dInts ns, dStrs ks]) (ok_store M) (hr.mono (by decide)) rfl M.m__law_store M.F__law_store.kp M.b__law_store pass0 (ea_cons (by walk_at "nm") (ea_cons (by walk_at "nm") ea_nil)) f1.g2 f1.tok (fun us G2 H2 f2 rr => ?_))
  obtain ⟨u1, u2, rfl, q1, q2⟩ := all2 rr
  refine ⟨G2, ns, ks, u1, u2, f2.g2, f2.tok, rfl, q1, q2, hkl, fun a G3 H3 f3 _ ga => ?_⟩
  have F3 : Fr K G H G3 H3 := (f1.trans f2).trans f3
  replace r1 := (f2.trans f3).g.dp r1
  replace r2 := (f2.trans f3).g.dp r2
  have sl := storeAt_len ns ks 4
  have hn := storeAt_nd ns ks 4
  have hso := storeAt_mem ns hko 4
  generalize storeAt ns ks 4 = s at ga sl hn hso
  clear f1 f2 f3 rr q1 q2 e0 t0 r
  refine bb_val 3 nd (Hb := G3) (EvD.toInt (i := mixed (cellAt ns 5) 5) (ev_call (ok_mix M) (hr.mono (by decide)) rfl M.m__law_mixed M.F__law_mixed.kp M.b__law_mixed pass0 (ea_cons (ev_call (ok_cell M) (hr.mono (by decide)) rfl M.m__law_cell_at M.F__law_cell_at.kp M.b__law_cell_at pass0 (ea_cons (by walk_at "nm") (ea_cons ev_int ea_nil)) ⟨ns, 5, rfl, rfl⟩ fun _ _ => trivial) (ea_cons ev_int ea_nil)) ⟨_, _, rfl, rfl⟩ fun _ _ => trivial)) F3.g2 F3.tok (fun H4 e4 e5 t4 => ?_)
  have mm := mixed_lt (cellAt ns 5) 5
  have mv := mixed_lt (cellAt ns 6) 6
  generalize mixed (cellAt ns 5) 5 = n at mm
  have i2 := Int.emod_nonneg (n / 4) (show (4 : Int) ≠ 0 by decide)
  have i3 := Int.emod_lt_of_pos (n / 4) (show (0 : Int) < 4 by decide)
  have F4 := F3.step e4 e5 t4
  refine bb_val 4 nd (Hb := G3) (EvD.toStr (i := wordN n) (ev_ixL (ev_lst (ds := wordsL.map PyData.str) (by walk_at "xa") (by decide)) (by walk_at "xv") (wordN_at n))) F4.g2 F4.tok (fun H5 e6 e7 t5 => ?_)
  have F5 := F4.step e6 e7 t5
  refine bb_val 5 nd (Hb := G3) (EvD.toStr (i := ks.getD (n / 4 % 4).toNat (S [])) (ev_ixL (by walk_at "nm") (by walk_at "xv") (atI_map (f := PyData.str) i2 (by omega) (S [])))) F5.g2 F5.tok (fun H6 e8 e9 t6 => ?_)
  have F6 := F5.step e8 e9 t6
  refine bb_val 6 nd (Hb := G3) (EvD.toInt (i := numberF (mixed (cellAt ns 6) 6)) (ev_call (ok_number M) (hr.mono (by decide)) rfl M.m__law_number M.F__law_number.kp M.b__law_number pass0 (ea_cons (ev_call (ok_mix M) (hr.mono (by decide)) rfl M.m__law_mixed M.F__law_mixed.kp M.b__law_mixed pass0 (ea_cons (ev_call (ok_cell M) (hr.mono (by decide)) rfl M.m__law_cell_at M.F__law_cell_at.kp M.b__law_cell_at pass0 (ea_cons (by walk_at "nm") (ea_cons ev_int ea_nil)) ⟨ns, 6, rfl, rfl⟩ fun _ _ => trivial) (ea_cons ev_int ea_nil)) ⟨_, _, rfl, rfl⟩ fun _ _ => trivial) ea_nil) ⟨_, rfl, ⟨mv.1, by omega⟩, rfl⟩ fun _ _ => trivial)) F6.g2 F6.tok (fun H7 e10 e11 t7 => ?_)
  have F7 := F6.step e10 e11 t7
  clear F3 F4 F5 F6 e4 e5 t4 e6 e7 t5 e8 e9 t6 e10 e11 t7
  have hkey : okS (ks.getD (n / 4 % 4).toNat (S [])) = true := by
    rcases getD_cases ks (n / 4 % 4).toNat (S []) with h | h
    · exact hko _ h
    · rw [h]; decide +kernel
  generalize hx : (⟨n / 16 % 10, 1 + n / 160 % 5, wordN n, ks.getD (n / 4 % 4).toNat (S []), if wordN n = "away" then 0 else numberF (mixed (cellAt ns 6) 6)⟩ : Deed) = x
  have xw : wordN n = x.w := by rw [← hx]
  have xk : ks.getD (n / 4 % 4).toNat (S []) = x.k := by rw [← hx]
  have xa : n / 16 % 10 = x.a := by rw [← hx]
  have xt : 1 + n / 160 % 5 = x.t := by rw [← hx]
  refine bb_ifM (Hb := G3) (fun σ' H' => σ' = [some v1, some v2, some (.ref a), some (.int n), some (.str x.w), some (.str x.k), some (.int x.v), none, none, none, none] ∧ Fr K G H G3 H') (et_eqS (by walk_at "nm") ev_str) F7.g2 F7.tok (fun c H8 e4 e5 t4 => ?_) (fun c H8 e4 e5 t4 => bb_nil ⟨?_, F7.step e4 e5 t4⟩) (fun σ' H' pp => ?_)
  · have c' : wordN n = "away" := of_decide_eq_true c
    refine bb_val 6 nd (Hb := G3) (EvD.toInt (i := 0) ev_int) e4 t4 (fun H9 e6 e7 t5 => bb_nil ⟨?_, F7.step e6 (e5.trans e7) t5⟩)
    have : x.v = 0 := by rw [← hx]; exact if_pos c'
    rw [this, ← xw, ← xk]; rfl
  · have c' : ¬ wordN n = "away" := of_decide_eq_false c
    have : x.v = numberF (mixed (cellAt ns 6) 6) := by rw [← hx]; exact if_neg c'
    rw [this, ← xw, ← xk]; rfl
  obtain ⟨rfl, F⟩ := pp
  rw [xk] at hkey
  clear F7
  refine bb_dat 7 nd (Hb := G3) (d := x.d) (EvD.to (d := .tuple [.int (n / 16 % 10), .int (1 + n / 160 % 5), .str x.w, .str x.k, .int x.v]) (by walk_at "xv") (by rw [xa, xt])) F.g2 F.tok (fun v8 G4 H4 f4 r8 => ?_)
  have F4 := F.trans f4
  replace ga := f4.g.keep _ _ ga rfl
  clear F f4
  refine bb_new 8 nd (Hb := G4) (en_dictD (s := s) (ev_var 2 rfl) (.inl ga) M.z_dict) F4.g2 F4.tok rfl (fun b H5 e5 t5 hb h5b => ?_)
  have gb := F4.g2.fresh hb
  have F5 := (F4.step (F4.g2.trans e5) e5 t5).add h5b rfl (F4.h.fresh hb) gb
  have gbb : (upd G4 b (.dK (kvS s))) b = some (.dK (kvS s)) := upd_same
  replace ga := (Ext.new (o := .dK (kvS s)) gb).keep _ _ ga rfl
  replace r8 := (Ext.new (o := .dK (kvS s)) gb).dp r8
  generalize (upd G4 b (.dK (kvS s))) = G5 at F5 gbb ga r8
  clear F4 e5 t5 gb
  have sl9 : s.length ≤ 900 := by omega
  -- found
  refine bb_asgE 9 nd (bE_call (H := G5) (P := fun us _ => us = [.ref a, v8]) (ok_doneby M) (hr.mono (by decide)) rfl M.m_done_by M.F_done_by.kp M.b_done_by pass0 (eav_cons (ev_var 2 rfl) (eav_cons (ev_var 7 rfl) eav_nil)) F5.g2 F5.tok (fun us G6 H6 f6 e6 => ?_))
  refine ⟨G6, a, s, x, v8, f6.g2, f6.tok, e6, f6.g.keep _ _ ga rfl, f6.g.dp r8, sl9, fun p9 t9 G7 H7 f7 g7 h6t sq9 h7t => ?_⟩
  have F7 := (F5.trans f6).trans f7
  have Ht9 : H t9 = none := (F5.trans f6).h.fresh h6t
  have f67 := f6.trans f7
  replace ga := f67.g.keep _ _ ga rfl
  replace gbb := f67.g.keep _ _ gbb rfl
  replace r8 := f67.g.dp r8
  clear F5 f6 f7 e6 f67 h6t
  -- due
  refine bb_asgE 10 nd (bE_call (H := G7) (P := fun us _ => us = [.ref b, .str x.w, .str x.k, .int x.v]) (ok_due M) (hr.mono (by decide)) rfl M.m__law_due M.F__law_due.kp M.b__law_due pass0 (eav_cons (ev_var 8 rfl) (eav_cons (ev_var 4 rfl) (eav_cons (ev_var 5 rfl) (eav_cons (ev_var 6 rfl) eav_nil)))) F7.g2 F7.tok (fun us G8 H8 f8 e8 => ?_))
  refine ⟨G8, b, s, x, f8.g2, f8.tok, e8, f8.g.keep _ _ gbb rfl, hn, sl9, fun p10 t10 G9 H9 f9 h8t sq10 g10 => ?_⟩
  have F9 := (F7.trans f8).trans f9
  have f89 := f8.trans f9
  have g9 := f89.off t9 _ g7 h7t
  have h9t := f89.h.keep _ _ h7t rfl
  have n910 : t9 ≠ t10 := fun z => by rw [z, g10] at g9; cases g9
  replace ga := f89.g.keep _ _ ga rfl
  replace gbb := f89.g.keep _ _ gbb rfl
  replace r8 := f89.g.dp r8
  replace sq9 := f89.g.t sq9
  clear F7 f8 f9 e8 f89 g7 h7t h8t
  have sn := step_nd hn x
  have so := step_mem (x := x) hso hkey
  have s64 : (stepS s x).1.length < 64 := by have := stepS_len s x; omega
  generalize ho : (stepS s x).2 = o at sq9 sq10
  generalize hs' : (stepS s x).1 = s' at h9t g10 sn so s64
  refine bb_if0 (Hb := G9) (et_w (ew_or (et_not (et_val (et_isiV (tn := "tuple") (kk := true) (ev_var 9 rfl) (fun G0 E => tyx_t (E.t sq9)) (by decide +kernel) M.z_isinstance M.z_tuple (by decide +kernel)))) fun _ => ew_or (et_neI (ev_lenP (ev_var 9 rfl) sq9 M.z_len) ev_int) fun _ => ew_or1 (et_neDD hr.units0 hn (ev_var 2 rfl) (ev_var 8 rfl) ga gbb))) F9.g2 F9.tok (fun c H10 e6 e7 t6 => Bool.noConfusion c) (fun c H10 e6 e7 t6 => ?_)
  have F10 := F9.step e6 e7 t6
  have h10t := e7.keep _ _ h9t rfl
  have eB : Ext G9 (upd G9 t9 (.dK (kvS s'))) := Ext.new g9
  refine bb_if0 (Hb := upd G9 t9 (.dK (kvS s'))) (k := !true || !true) (et_w (ew_or (k := !true) (l := !true) (et_not (et_val (k := true) (fun H1 E1 tk1 Q1 qq1 => bE_call (H := upd G9 t9 (.dK (kvS s'))) (P := fun us _ => us = [.ref t9, .ref t10]) (ok_same M) (hr.mono (by decide)) rfl M.m__law_same M.F__law_same.kp M.b__law_same pass0 (eav_cons (ev_ixP (ev_var 9 rfl) (eB.t sq9) ev_int rfl) (eav_cons (ev_ixP (ev_var 10 rfl) (eB.t sq10) ev_int rfl) eav_nil)) E1 tk1 (fun us G0 H0 f0 e0 => ⟨G0, t9, t10, s', f0.g2, f0.tok, e0, f0.g.keep _ _ upd_same rfl, f0.g.keep _ _ (eB.keep _ _ g10 rfl) rfl, n910, sn, so, s64, fun v G' H' f' r' => qq1 v G' H' (f0.trans f') r'⟩)))) fun _ => ew_or1 (et_not (et_val (ev_call (ok_answersame M) (hr.mono (by decide)) rfl M.m__law_answer_same M.F__law_answer_same.kp M.b__law_answer_same pass0 (ea_cons (EvV.dat (ev_ixP (ev_var 9 rfl) (eB.t sq9) ev_int rfl) (dp_oV o)) (ea_cons (EvV.dat (ev_ixP (ev_var 10 rfl) (eB.t sq10) ev_int rfl) (dp_oV o)) ea_nil)) ⟨o, rfl, rfl⟩ fun _ _ => trivial))))) (F10.g2.add h10t rfl) F10.tok (fun c H11 e8 e9 t7 => Bool.noConfusion c) (fun c H11 e8 e9 t7 => ?_)
  have F11 := F10.step (F10.g2.trans e9) e9 t7
  have h11t := e9.keep _ _ h10t rfl
  clear F9 F10 h9t h10t e6 e7 t6 e8 e9 t7 eB
  refine bb_setD (Hb := G9) (s := s') (k := "more") (n := 1) hu (EvD.toInt ev_int) (ev_ixP (ev_var 9 rfl) sq9 ev_int rfl) ev_str F11.g2 F11.tok h11t (by omega) (fun H12 e12 t12 => ?_)
  have F12 := (F11.step (F11.g2.trans e12) e12 t12).put (o := .dK (kvS (putS s' "more" 1))) rfl Ht9 g9
  have h12 : (upd H12 t9 (.dK (kvS (putS s' "more" 1)))) t9 = some (.dK (kvS (putS s' "more" 1))) := upd_same
  generalize (upd H12 t9 (.dK (kvS (putS s' "more" 1)))) = H12' at F12 h12
  refine bb_popD (Hb := G9) (s := putS s' "more" 1) (k := x.k) (ev_ixP (ev_var 9 rfl) sq9 ev_int rfl) (by walk_at "nm") ev_non F12.g2 F12.tok h12 (fun H13 e13 t13 => ?_)
  have F13 := (F12.step (F12.g2.trans e13) e13 t13).put (o := .dK (kvS (dropS (putS s' "more" 1) x.k))) rfl Ht9 g9
  generalize (upd H13 t9 (.dK (kvS (dropS (putS s' "more" 1) x.k)))) = H13' at F13
  clear F11 F12 e12 t12 e13 t13 h12 h11t
  refine bb_ret (Hb := G9) (d := .bool true) (EvD.to (ev_and (ev_eqDD hr.units0 hn (ev_var 2 rfl) (ev_var 8 rfl) ga gbb) fun _ => ev_one (d := .bool true) (fun H1 E1 tk1 Q1 qq1 => bE_call (H := G9) (P := fun us G => ∃ v, us = [v, .ref t10] ∧ ∃ t, v = .ref t ∧ G t = some (.dK (kvS s')) ∧ G9 t = none) (ok_same M) (hr.mono (by decide)) rfl M.m__law_same M.F__law_same.kp M.b__law_same pass0 (eap_cons (P := fun v G => ∃ t, v = .ref t ∧ G t = some (.dK (kvS s')) ∧ G9 t = none) (fun H2 E2 tk2 Q2 qq2 => PE.b (pe_ix ir_b pe_b pe_b (fun _ _ => rfl)) (bE_call (H := G9) (P := fun us _ => us = [.ref a, v8]) (ok_doneby M) (hr.mono (by decide)) rfl M.m_done_by M.F_done_by.kp M.b_done_by pass0 (eav_cons (ev_var 2 rfl) (eav_cons (ev_var 7 rfl) eav_nil)) E2 tk2 (fun us G6 H6 f6 e6 => ?_))) (fun v G G' E ⟨t, h1, h2, h3⟩ => ⟨t, h1, E.keep _ _ h2 rfl, h3⟩) (eav_cons (ev_ixP (ev_var 10 rfl) sq10 ev_int rfl) eav_nil)) E1 tk1 (fun us G0 H0 f0 e0 => ?_))) rfl) F13.g2 F13.tok (fun v G15 H15 f15 r15 => q v G15 H15 (F13.trans f15) r15)
  · refine ⟨G6, a, s, x, v8, f6.g2, f6.tok, e6, f6.g.keep _ _ ga rfl, f6.g.dp r8, sl9, fun p11 t11 G7 H7 f7 g7 h6t sq11 h7t => ?_⟩
    rw [hs'] at h7t
    have FA := (f6.trans f7).add h7t rfl (f6.h.fresh h6t) g7
    refine ev_int (i := 0) H7 FA.g2 FA.tok _ (fun y G10 H10 f10 r10 => ?_)
    cases r10
    exact IxR.b ix_tup ⟨_, _, _, _, rfl, rfl, f10.g2.t (f10.g.t ((Ext.new g7).t sq11)), rfl, qq2 _ G10 H10 (FA.trans f10) ⟨t11, rfl, f10.g.keep _ _ upd_same rfl, E2.fresh (f6.h.fresh h6t)⟩⟩
  · obtain ⟨v, rfl, t, rfl, h1, h2⟩ := e0
    exact ⟨G0, t, t10, s', f0.g2, f0.tok, rfl, h1, f0.g.keep _ _ g10 rfl, fun z => (by rw [z, g10] at h2; cases h2), sn, so, s64, fun v G' H' f' r' => qq1 v G' H' (f0.trans f') r'⟩
end
end Pf

namespace Pf
open PySem L2 C
/-! ### words of this text: «dp» closes what data is, «xv» walks an expression, «xt» a test -/
local macro_rules | `(tactic| walk_at "dp5") => `(tactic| assumption)
local macro_rules | `(tactic| walk_at "dp4") => `(tactic| first
  | assumption
  | (refine Ext.dp (Fr.g (by assumption)) ?_; walk_at "dp5")
  | (refine Ext.dp (by assumption) ?_; walk_at "dp5"))
local macro_rules | `(tactic| walk_at "dp3") => `(tactic| first
  | assumption
  | (refine Ext.dp (Fr.g (by assumption)) ?_; walk_at "dp4")
  | (refine Ext.dp (by assumption) ?_; walk_at "dp4"))
local macro_rules | `(tactic| walk_at "dp2") => `(tactic| first
  | assumption
  | (refine Ext.dp (Fr.g (by assumption)) ?_; walk_at "dp3")
  | (refine Ext.dp (by assumption) ?_; walk_at "dp3"))
local macro_rules | `(tactic| walk_at "dp1") => `(tactic| first
  | assumption
  | (refine Ext.dp (Fr.g (by assumption)) ?_; walk_at "dp2")
  | (refine Ext.dp (by assumption) ?_; walk_at "dp2"))
local macro_rules | `(tactic| walk_at "dp") => `(tactic| first
  | assumption
  | exact Dp.int _ | exact Dp.str _ | exact Dp.bl _ | exact Dp.non
  | (refine Ext.dp (Fr.g (by assumption)) ?_; walk_at "dp1")
  | (refine Ext.dp (by assumption) ?_; walk_at "dp1"))
local macro_rules | `(tactic| walk_at "side") => `(tactic| first | assumption | decide | omega | (simp only [List.length_cons, List.length_nil]; omega) | (simp only [Int.natAbs]; omega))
local macro_rules | `(tactic| walk_at "xv") => `(tactic| first
  | ((with_reducible show EvD _ (Expr.Name _ _) _ _ _); walk_at "nm")
  | ((with_reducible show EvD _ (Expr.Constant _ _ _) _ _ _); first | exact ev_int | exact ev_str | exact ev_bl | exact ev_non)
  | ((with_reducible show EvD _ (Expr.BinOp _ .Add _ _) _ _ _); first | (apply ev_add; walk_at "xv"; walk_at "xv") | (apply ev_catS; walk_at "xv"; walk_at "xv"; walk_at "side"))
  | ((with_reducible show EvD _ (Expr.BinOp _ .Sub _ _) _ _ _); apply ev_sub; walk_at "xv"; walk_at "xv")
  | ((with_reducible show EvD _ (Expr.BinOp _ .Mod _ _) _ _ _); apply ev_mod; walk_at "xv"; walk_at "xv"; walk_at "side")
  | ((with_reducible show EvD _ (Expr.BinOp _ .FloorDiv _ _) _ _ _); apply ev_div; walk_at "xv"; walk_at "xv"; walk_at "side")
  | ((with_reducible show EvD _ (Expr.BinOp _ .Mult _ _) _ _ _); first | (apply ev_mulR; walk_at "xv"; walk_at "xv"; walk_at "side") | (apply ev_mulL; walk_at "xv"; walk_at "xv"; walk_at "side"))
  | ((with_reducible show EvD _ (Expr.Tuple _ _ _) _ _ _); apply ev_tup; walk_at "xa"; walk_at "side")
  | ((with_reducible show EvD _ (Expr.List _ _) _ _ _); apply ev_lst; walk_at "xa"; walk_at "side")
  | walk_at "xown")
local macro_rules | `(tactic| walk_at "xa") => `(tactic| first | exact ea_nil | (refine' ea_cons ?xa ?xb; (case xa => walk_at "xv"); (case xb => walk_at "xa")))
local macro_rules | `(tactic| walk_at "xt") => `(tactic| first
  | ((with_reducible show EvT _ (Expr.Compare _ [.Lt] _ _) _ _ _); refine' et_lt ?xa ?xb; (case xa => walk_at "xv"); (case xb => walk_at "xv"))
  | ((with_reducible show EvT _ (Expr.Compare _ [.LtE] _ _) _ _ _); refine' et_le ?xa ?xb; (case xa => walk_at "xv"); (case xb => walk_at "xv"))
  | ((with_reducible show EvT _ (Expr.Compare _ [.Gt] _ _) _ _ _); refine' et_gt ?xa ?xb; (case xa => walk_at "xv"); (case xb => walk_at "xv"))
  | ((with_reducible show EvT _ (Expr.Compare _ [.GtE] _ _) _ _ _); refine' et_ge ?xa ?xb; (case xa => walk_at "xv"); (case xb => walk_at "xv"))
  | ((with_reducible show EvT _ (Expr.Compare _ [.Eq] _ _) _ _ _); first | (refine' et_eqI ?xa ?xb; (case xa => walk_at "xv"); (case xb => walk_at "xv")) | (refine' et_eqS ?xa ?xb; (case xa => walk_at "xv"); (case xb => walk_at "xv")))
  | ((with_reducible show EvT _ (Expr.Compare _ [.NotEq] _ _) _ _ _); first | (refine' et_neI ?xa ?xb; (case xa => walk_at "xv"); (case xb => walk_at "xv")) | (refine' et_neS ?xa ?xb; (case xa => walk_at "xv"); (case xb => walk_at "xv")))
  | ((with_reducible show EvT _ (Expr.Compare _ [.Is] _ _) _ _ _); refine' et_isN ?xa ?xb; (case xa => walk_at "xv"); (case xb => walk_at "xv"))
  | ((with_reducible show EvT _ (Expr.Compare _ [.IsNot] _ _) _ _ _); refine' et_notN ?xa ?xb; (case xa => walk_at "xv"); (case xb => walk_at "xv"))
  | ((with_reducible show EvT _ (Expr.UnaryOp .Not _ _) _ _ _); apply et_not; walk_at "xt"))
section
variable {K : PySem.W.Frag} {mg : Str → Option Value}
theorem tabIn_none {x : Str} (h : PySem.W.nsIn K mainGlobals x = some none) : PySem.W.tabIn K x = none := by unfold PySem.W.tabIn; rw [h]
theorem law_at {l : PySem.W.OpenLaw} {w : World} {fa : Addr} {h : Heap} (M : MF K mg) (nk : PySem.W.tabIn K "is_key" = none) (hfa : mg "law" = some (.ref fa)) : LamX.LawAtS l w K CX0 4 63 "_law_script" mg fa h := by
  have e := M.m_law
  rw [hfa] at e
  cases e
  refine ⟨M.d_law, [], SpR K (fun _ => True) Rlaw, fun p hp => (nomatch hp), fun p hp => (nomatch hp), fun p hp => (nomatch hp), fun s u => M.s_law s u, fun H a ns _ _ _ hS => ?_, fun base _ _ _ => ok_law M⟩
  exact ⟨H, [dInts ns], .bool true, Ext.refl H, fun c P ps e z => (by rw [nk] at e; cases e), .cons (.lst hS (ints_dp ns)) .nil, trivial, ⟨ns, rfl, rfl⟩, fun v G' H2 _ r => dp_bl r⟩
end
end Pf
open PySem PySem.W PyProof.Rows
set_option maxRecDepth 100000 in
set_option maxHeartbeats 0 in
theorem PySem.Challenge.cw_chainkeep_k02_one_deed_holds : PySem.Challenge.rw_chainkeep_k02_one_deed.Holds := by
  w_on; o_law; k_head; (case hw => w_witness2)
  k_fill
  refine LamX.walk_ofTs (l := PySem.Challenge.rw_chainkeep_k02_one_deed) (n := 63) (k := 4) (x := "_law_script") (CX := fun _ => L2.CX0) rfl (by decide) rfl ⟨rfl, by decide, by decide⟩ (fun w h Y => PySem.W.kIn_of Y) ?F (fun _ _ _ _ _ z => z)
  intro w mg fa h Y KX G hmg
  refine Pf.law_at ?theMF (Pf.tabIn_none ?nk) hmg
  (case nk => k_is)
  refine' Pf.all_mk KX G ?a_done_by ?l_done_by ?c_done_by ?k_done_by ?a__do ?l__do ?c__do ?k__do ?a__law_cell_at ?l__law_cell_at ?c__law_cell_at ?k__law_cell_at ?a__law_mixed ?l__law_mixed ?c__law_mixed ?k__law_mixed ?a__law_whole ?l__law_whole ?c__law_whole ?k__law_whole ?a__law_number ?l__law_number ?c__law_number ?k__law_number ?a__law_keys ?l__law_keys ?c__law_keys ?k__law_keys ?a__law_store ?l__law_store ?c__law_store ?k__law_store ?a__law_same ?l__law_same ?c__law_same ?k__law_same ?a__law_answer_same ?l__law_answer_same ?c__law_answer_same ?k__law_answer_same ?a__law_due ?l__law_due ?c__law_due ?k__law_due ?a_law ?l_law ?c_law ?k_law ?z_dict ?z_len ?z_isinstance ?z_int ?z_bool ?z_range ?z_sorted ?z_tuple
  (case a_done_by => k_is)
  (case l_done_by => k_is)
  (case c_done_by => k_is)
  (case k_done_by => k_is)
  (case a__do => k_is)
  (case l__do => k_is)
  (case c__do => k_is)
  (case k__do => k_is)
  (case a__law_cell_at => k_is)
  (case l__law_cell_at => k_is)
  (case c__law_cell_at => k_is)
  (case k__law_cell_at => k_is)
  (case a__law_mixed => k_is)
  (case l__law_mixed => k_is)
  (case c__law_mixed => k_is)
  (case k__law_mixed => k_is)
  (case a__law_whole => k_is)
  (case l__law_whole => k_is)
  (case c__law_whole => k_is)
  (case k__law_whole => k_is)
  (case a__law_number => k_is)
  (case l__law_number => k_is)
  (case c__law_number => k_is)
  (case k__law_number => k_is)
  (case a__law_keys => k_is)
  (case l__law_keys => k_is)
  (case c__law_keys => k_is)
  (case k__law_keys => k_is)
  (case a__law_store => k_is)
  (case l__law_store => k_is)
  (case c__law_store => k_is)
  (case k__law_store => k_is)
  (case a__law_same => k_is)
  (case l__law_same => k_is)
  (case c__law_same => k_is)
  (case k__law_same => k_is)
  (case a__law_answer_same => k_is)
  (case l__law_answer_same => k_is)
  (case c__law_answer_same => k_is)
  (case k__law_answer_same => k_is)
  (case a__law_due => k_is)
  (case l__law_due => k_is)
  (case c__law_due => k_is)
  (case k__law_due => k_is)
  (case a_law => k_is)
  (case l_law => k_is)
  (case c_law => k_is)
  (case k_law => k_is)
  (case z_dict => k_is)
  (case z_len => k_is)
  (case z_isinstance => k_is)
  (case z_int => k_is)
  (case z_bool => k_is)
  (case z_range => k_is)
  (case z_sorted => k_is)
  (case z_tuple => k_is)
