import PyProof.Rows.All
import Wide.All
import OpenK.AllK
import Wide.FinOn
import HandS.ForMost
import HandS.ForExc
import HandS.TryMany
import HandS.IsInst
import HandS.AnyAll
import HandS.EndTab
import HandS.Deep
import HandS.TupAny
import HandS.Sort
import HandS.Style
import KE.KNest
import PySem.Challenge.RW_chainkeep_k01_deeds_known
set_option Elab.async false
set_option linter.all false
set_option maxRecDepth 100000
set_option maxHeartbeats 2000000
namespace C
open PySem L2
open PyProof.Rows (subscriptTail)

/-! ### extension of abstract heaps: what is tracked stays (a def's table may grow) -/
def isTbl : HO → Bool
  | .tbl _ => true
  | _ => false
theorem isTbl_of {o : HO} (h : isTbl o = true) : ∃ ps, o = .tbl ps := by cases o <;> first | exact ⟨_, rfl⟩ | cases h
structure Ext (H H' : Hp) : Prop where
  keep : ∀ a o, H a = some o → isTbl o = false → H' a = some o
  tb : ∀ a ps, H a = some (.tbl ps) → ∃ qs, H' a = some (.tbl qs)
/-- the defs' tables are in order -/
def TabsOk (K : PySem.W.Frag) (H : Hp) : Prop := ∀ c P ps, PySem.W.tabIn K "is_key" = some (c, P) → H P = some (.tbl ps) → TriplesOk ps.toList
theorem Ext.dom {H H' : Hp} (e : Ext H H') : ∀ a o, H a = some o → ∃ o', H' a = some o' := fun a o h => by
  cases q : isTbl o with
  | false => exact ⟨o, e.keep a o h q⟩
  | true =>
    obtain ⟨ps, rfl⟩ := isTbl_of q
    obtain ⟨qs, r⟩ := e.tb a ps h
    exact ⟨_, r⟩
theorem Ext.refl (H : Hp) : Ext H H := ⟨fun _ _ h _ => h, fun _ ps h => ⟨ps, h⟩⟩
theorem Ext.trans {H H1 H2 : Hp} (a : Ext H H1) (b : Ext H1 H2) : Ext H H2 :=
  ⟨fun x o h n => b.keep x o (a.keep x o h n) n, fun P ps h => by obtain ⟨qs, r⟩ := a.tb P ps h; exact b.tb P qs r⟩
theorem Ext.fresh {H H' : Hp} (e : Ext H H') {p : Addr} (h : H' p = none) : H p = none := by
  cases q : H p with
  | none => rfl
  | some o =>
    obtain ⟨o', h'⟩ := e.dom p o q
    rw [h] at h'; cases h'
/-- an object that H does not know may change -/
theorem Ext.mut {H H' : Hp} {p : Addr} {o : HO} (e : Ext H H') (h : H p = none) : Ext H (upd H' p o) where
  keep := fun a u ha n => by
    rw [upd_ne (ne_of_none ha h)]
    exact e.keep a u ha n
  tb := fun a u ha => by
    rw [upd_ne (ne_of_none ha h)]
    exact e.tb a u ha
theorem Ext.new {H : Hp} {p : Addr} {o : HO} (h : H p = none) : Ext H (upd H p o) := (Ext.refl H).mut h
theorem Ext.both {H H' : Hp} {p : Addr} {o : HO} (e : Ext H H') : Ext (upd H p o) (upd H' p o) where
  keep := fun a u ha n => by
    by_cases z : a = p
    · subst z; rw [upd_same] at ha ⊢; exact ha
    · rw [upd_ne z] at ha ⊢; exact e.keep a u ha n
  tb := fun a u ha => by
    by_cases z : a = p
    · subst z; rw [upd_same] at ha ⊢; exact ⟨u, ha⟩
    · rw [upd_ne z] at ha ⊢; exact e.tb a u ha
theorem Ext.tabbed {H H' : Hp} {P : Addr} (t : GxR.TabG H P) (h : GxR.Tabbed P H H') : Ext H H' where
  keep := fun a o ha n => by
    by_cases hb : a = P
    · obtain ⟨ps, e, _⟩ := t
      rw [hb, e] at ha
      cases ha
      cases n
    · rw [h.2 a hb]; exact ha
  tb := fun a ps ha => by
    by_cases hb : a = P
    · obtain ⟨qs, e, _⟩ := h.1
      rw [hb]; exact ⟨_, e⟩
    · exact ⟨ps, by rw [h.2 a hb]; exact ha⟩
theorem TabsOk.upd {K : PySem.W.Frag} {H : Hp} {p : Addr} {o : HO} (t : TabsOk K H) (n : isTbl o = false) : TabsOk K (upd H p o) := fun c P ps k h => by
  by_cases z : P = p
  · subst z; rw [upd_same] at h; cases h; cases n
  · rw [upd_ne z] at h; exact t c P ps k h
theorem TabsOk.tabbed {K : PySem.W.Frag} {H H' : Hp} {P : Addr} (t : TabsOk K H) (h : GxR.Tabbed P H H') : TabsOk K H' := fun c Q ps k q => by
  by_cases z : Q = P
  · obtain ⟨qs, e, r⟩ := h.1
    rw [z, e] at q; cases q; exact r
  · rw [h.2 Q z] at q; exact t c Q ps k q
/-- what two heaps know together: E where it knows, else G -/
def uni (E G : Hp) : Hp := fun b => match E b with
  | some o => some o
  | none => G b
theorem uni_l {E G : Hp} : Ext E (uni E G) := ⟨fun a o h _ => by unfold uni; rw [h], fun a ps h => ⟨ps, by unfold uni; rw [h]⟩⟩
theorem uni_n {E G : Hp} {a : Addr} (h : E a = none) : uni E G a = G a := by unfold uni; rw [h]
theorem uni_to {E G H : Hp} (e : Ext E H) (g : Ext G H) : Ext (uni E G) H where
  keep := fun a o h n => by
    cases q : E a with
    | none => rw [uni_n q] at h; exact g.keep a o h n
    | some u => unfold uni at h; rw [q] at h; cases h; exact e.keep a _ q n
  tb := fun a o h => by
    cases q : E a with
    | none => rw [uni_n q] at h; exact g.tb a o h
    | some u => unfold uni at h; rw [q] at h; cases h; exact e.tb a _ q
theorem uni_r {E G H : Hp} (e : Ext E H) (g : Ext G H) : Ext G (uni E G) where
  keep := fun a o h n => by
    cases q : E a with
    | none => rw [uni_n q]; exact h
    | some u =>
      have r := g.keep a o h n
      cases t : isTbl u with
      | false =>
        rw [e.keep a u q t] at r
        cases r
        unfold uni; rw [q]
      | true =>
        obtain ⟨ps, rfl⟩ := isTbl_of t
        obtain ⟨qs, r2⟩ := e.tb a ps q
        rw [r2] at r; cases r; cases n
  tb := fun a ps h => by
    cases q : E a with
    | none => rw [uni_n q]; exact ⟨ps, h⟩
    | some u =>
      obtain ⟨qs, r⟩ := g.tb a ps h
      cases t : isTbl u with
      | false =>
        rw [e.keep a u q t] at r
        cases r; cases t
      | true =>
        obtain ⟨ps, rfl⟩ := isTbl_of t
        exact ⟨ps, by unfold uni; rw [q]⟩
/-- from the base H within H1 to the base G within H2: G is new but for H; what H1 had beside H is kept -/
structure Fr (K : PySem.W.Frag) (H H1 G H2 : Hp) : Prop where
  g : Ext H G
  g2 : Ext G H2
  h : Ext H1 H2
  off : ∀ b o, H b = none → H1 b = some o → G b = none
  tok : TabsOk K H2
theorem Fr.refl {K : PySem.W.Frag} {H H1 : Hp} (e : Ext H H1) (t : TabsOk K H1) : Fr K H H1 H H1 := ⟨Ext.refl _, e, Ext.refl _, fun _ _ n _ => n, t⟩
theorem Fr.trans {K : PySem.W.Frag} {H H1 G H2 G' H3 : Hp} (a : Fr K H H1 G H2) (b : Fr K G H2 G' H3) : Fr K H H1 G' H3 :=
  ⟨a.g.trans b.g, b.g2, a.h.trans b.h, fun x o n q => by obtain ⟨o', r⟩ := a.h.dom x o q; exact b.off x o' (a.off x o n q) r, b.tok⟩
theorem Fr.new {K : PySem.W.Frag} {H H1 G H2 : Hp} {p : Addr} {o : HO} (a : Fr K H H1 G H2) (n : H2 p = none) (t : isTbl o = false) : Fr K H H1 (upd G p o) (upd H2 p o) :=
  ⟨a.g.trans (Ext.new (a.g2.fresh n)), a.g2.both, a.h.trans (Ext.new n), fun b u q r => by rw [upd_ne (ne_of_none r (a.h.fresh n))]; exact a.off b u q r, a.tok.upd t⟩
theorem Fr.pre {K : PySem.W.Frag} {H H0 H1 G H2 : Hp} (a : Fr K H H1 G H2) (e : Ext H0 H1) : Fr K H H0 G H2 := ⟨a.g, a.g2, e.trans a.h, fun b o n m => by obtain ⟨o', m'⟩ := e.dom b o m; exact a.off b o' n m', a.tok⟩
theorem Fr.step {K : PySem.W.Frag} {H H1 G H2 H3 : Hp} (a : Fr K H H1 G H2) (e1 : Ext G H3) (e2 : Ext H2 H3) (t : TabsOk K H3) : Fr K H H1 G H3 := ⟨a.g, e1, a.h.trans e2, a.off, t⟩
/-- new at G and not known to H: not known to H1 -/
theorem Fr.fresh {K : PySem.W.Frag} {H H1 G H2 : Hp} (a : Fr K H H1 G H2) {b : Addr} {o : HO} (n : H b = none) (q : G b = some o) : H1 b = none := by
  cases r : H1 b with
  | none => rfl
  | some u => rw [a.off b u n r] at q; cases q
theorem Fr.mono {K : PySem.W.Frag} {H H' H1 G H2 : Hp} (a : Fr K H H1 G H2) (e : Ext H H') (e1 : Ext H' H1) : Fr K H' H1 (uni H' G) H2 :=
  ⟨uni_l, uni_to (e1.trans a.h) a.g2, a.h, fun b o n q => by rw [uni_n n]; exact a.off b o (e.fresh n) q, a.tok⟩
section
variable {K : PySem.W.Frag} {H H' : Hp}
theorem Ext.rd {a : Addr} {u : HO} (e : Ext H H') (h : Rd H a u) (n : isTbl u = false) : Rd H' a u := by
  rcases h with h | ⟨o, h⟩
  · exact .inl (e.keep a _ h n)
  · exact .inr ⟨o, e.keep a _ h rfl⟩
theorem Ext.l {a : Addr} {xs : List V} (e : Ext H H') (h : SqL K H a xs) : SqL K H' a xs := by
  rcases h with h | h
  · exact .inl (e.rd h rfl)
  · exact .inr h
theorem Ext.t {a : Addr} {xs : List V} (e : Ext H H') (h : SqT K H a xs) : SqT K H' a xs := by
  rcases h with h | h
  · exact .inl (e.rd h rfl)
  · exact .inr h
mutual
theorem Ext.rep (e : Ext H H') : ∀ (d : PyData) (v : V), Dp K H v d → Dp K H' v d
  | _, _, .non => .non
  | _, _, .bl b => .bl b
  | _, _, .int i => .int i
  | _, _, .str x => .str x
  | .list ds, _, .lst h q => .lst (e.l h) (Ext.reps e ds _ q)
  | .tuple ds, _, .tup h q => .tup (e.t h) (Ext.reps e ds _ q)
theorem Ext.reps (e : Ext H H') : ∀ (ds : List PyData) (vs : List V), DpAll K H vs ds → DpAll K H' vs ds
  | _, _, .nil => .nil
  | d :: ds, _, .cons h q => .cons (Ext.rep e d _ h) (Ext.reps e ds _ q)
end
theorem Ext.dp (e : Ext H H') {d : PyData} {v : V} (h : Dp K H v d) : Dp K H' v d := e.rep d v h
theorem Ext.dps (e : Ext H H') {d : List PyData} {v : List V} (h : DpAll K H v d) : DpAll K H' v d := e.reps d v h
end

/-! ### readings straight from the syntax -/
section
variable (X : Cx)
def bE (e : Expr) : TE := fun σ H Q => ∀ pins s, Inv X pins σ H s → wpAny (model X.prog X.w) X.A (eval e X.env) (EP X pins σ Q) X.xe s
def bT (e : Expr) : TT := fun σ H Q => ∀ pins s, Inv X pins σ H s → wpAny (model X.prog X.w) X.A (isTrue e X.env (eval e X.env)) (TP X pins σ Q) X.xe s
def bW (e : Expr) : TT := fun σ H Q => ∀ (whole : Sem Value) pins s, Inv X pins σ H s → wpAny (model X.prog X.w) X.A (isTrue e X.env whole) (TP X pins σ Q) X.xe s
def bA (es : List Expr) : TA := fun σ H Q => ∀ (pos : Pos) pins s, Inv X pins σ H s → wpAny (model X.prog X.w) X.A (spliced (backTo pos (starEach es X.env))) (AP X pins σ Q) X.xe s
def bS (st : Stmt) : TS := fun D σ H => ∀ pins s, Inv X pins σ H s → wpAny (model X.prog X.w) X.A (exec st X.env) (SP X pins D) X.xe s
def bB (st : List Stmt) : TS := fun D σ H => ∀ pins s, Inv X pins σ H s → wpAny (model X.prog X.w) X.A (execs st X.env) (SP X pins D) X.xe s
end
section
variable {X : Cx} {e : Expr} {es : List Expr} {st : Stmt} {sts : List Stmt}
theorem pe_b : PE X e (bE X e) := ⟨fun pins s _ _ _ I h => h pins s I⟩
theorem pt_b : PT X e (bT X e) := ⟨fun pins s _ _ _ I h => h pins s I⟩
theorem pw_b : PW X e (bW X e) := ⟨fun w pins s _ _ _ I h => h w pins s I⟩
theorem pa_b : PA X es (bA X es) := ⟨fun p pins s _ _ _ I h => h p pins s I⟩
theorem ps_b : PS X st (bS X st) := ⟨fun pins s _ _ _ I h => h pins s I⟩
theorem pss_b : PSs X sts (bB X sts) := ⟨fun pins s _ _ _ I h => h pins s I⟩
theorem PE.b {t : TE} (p : PE X e t) {σ : L2.St} {H : Hp} {Q : VK} (h : t σ H Q) : bE X e σ H Q := fun pins s I => p.run pins s σ H Q I h
theorem PT.b {t : TT} (p : PT X e t) {σ : L2.St} {H : Hp} {Q : Bool → Hp → Prop} (h : t σ H Q) : bT X e σ H Q := fun pins s I => p.run pins s σ H Q I h
theorem PW.b {t : TT} (p : PW X e t) {σ : L2.St} {H : Hp} {Q : Bool → Hp → Prop} (h : t σ H Q) : bW X e σ H Q := fun w pins s I => p.run w pins s σ H Q I h
theorem PA.b {t : TA} (p : PA X es t) {σ : L2.St} {H : Hp} {Q : List V → Hp → Prop} (h : t σ H Q) : bA X es σ H Q := fun pos pins s I => p.run pos pins s σ H Q I h
theorem PS.b {t : TS} (p : PS X st t) {D : Ends} {σ : L2.St} {H : Hp} (h : t D σ H) : bS X st D σ H := fun pins s I => p.run pins s σ H D I h
theorem PSs.b {t : TS} (p : PSs X sts t) {D : Ends} {σ : L2.St} {H : Hp} (h : t D σ H) : bB X sts D σ H := fun pins s I => p.run pins s σ H D I h
end

/-! ### evaluation -/
/-- the value and the base behind -/
abbrev VP := V → Hp → Prop
def Ev (X : Cx) (e : Expr) (σ : L2.St) (H : Hp) (P : VP) : Prop := ∀ H1, Ext H H1 → TabsOk X.K H1 → ∀ Q : VK, (∀ v G H2, Fr X.K H H1 G H2 → P v G → Q v H2) → bE X e σ H1 Q
def EvD (X : Cx) (e : Expr) (σ : L2.St) (H : Hp) (d : PyData) : Prop := Ev X e σ H fun v G => Dp X.K G v d
def EvV (X : Cx) (e : Expr) (σ : L2.St) (H : Hp) (v : V) : Prop := Ev X e σ H fun u _ => u = v
def EvT (X : Cx) (e : Expr) (σ : L2.St) (H : Hp) (b : Bool) : Prop := ∀ H1, Ext H H1 → TabsOk X.K H1 → ∀ Q : Bool → Hp → Prop, (∀ G H2, Fr X.K H H1 G H2 → Q b H2) → bT X e σ H1 Q
def EvW (X : Cx) (e : Expr) (σ : L2.St) (H : Hp) (b : Bool) : Prop := ∀ H1, Ext H H1 → TabsOk X.K H1 → ∀ Q : Bool → Hp → Prop, (∀ G H2, Fr X.K H H1 G H2 → Q b H2) → bW X e σ H1 Q
def EvA (X : Cx) (es : List Expr) (σ : L2.St) (H : Hp) (P : List V → Hp → Prop) : Prop := ∀ H1, Ext H H1 → TabsOk X.K H1 → ∀ Q : List V → Hp → Prop, (∀ vs G H2, Fr X.K H H1 G H2 → P vs G → Q vs H2) → bA X es σ H1 Q
def EvAD (X : Cx) (es : List Expr) (σ : L2.St) (H : Hp) (ds : List PyData) : Prop := EvA X es σ H fun vs G => DpAll X.K G vs ds
/-- a two-place operation by values -/
def bO (X : Cx) (f : Value → Value → Sem Value) : R2 := fun x y H Q => ∀ pins s σ v u, Inv X pins σ H s → RelV x v → RelV y u → wpAny (model X.prog X.w) X.A (f v u) (EP X pins σ Q) X.xe s
theorem or_b {X : Cx} {f : Value → Value → Sem Value} : OpR X f (bO X f) := fun pins s σ _ _ _ v u _ I rx ry h => h pins s σ v u I rx ry
theorem OpR.b {X : Cx} {f : Value → Value → Sem Value} {r : R2} (o : OpR X f r) {x y : V} {H : Hp} {Q : VK} (h : r x y H Q) : bO X f x y H Q := fun pins s σ v u I rx ry => o pins s σ H x y v u Q I rx ry h
def OpD (X : Cx) (f : Value → Value → Sem Value) (H : Hp) (d1 d2 d3 : PyData) : Prop :=
  ∀ G H1, Ext H G → Ext G H1 → TabsOk X.K H1 → ∀ x y, Dp X.K G x d1 → Dp X.K G y d2 → ∀ Q : VK, (∀ z G' H2, Fr X.K G H1 G' H2 → Dp X.K G' z d3 → Q z H2) → bO X f x y H1 Q
section
variable {X : Cx} {σ : L2.St} {H H' : Hp} {e a b c : Expr} {es : List Expr} {d d1 d2 d3 : PyData} {v x y : V} {pos : Pos} {k l : Bool}
theorem Ev.mono {P : VP} (E : Ext H H') (hP : ∀ v G G', Ext G G' → P v G → P v G') (h : Ev X e σ H P) : Ev X e σ H' P := fun H1 a t Q q => h H1 (E.trans a) t Q fun v G H2 f p =>
  q v (uni H' G) H2 (f.mono E a) (hP v G _ (uni_r (a.trans f.h) f.g2) p)
theorem EvD.mono (E : Ext H H') (h : EvD X e σ H d) : EvD X e σ H' d := Ev.mono E (fun _ _ _ a p => a.dp p) h
theorem EvV.mono (E : Ext H H') (h : EvV X e σ H v) : EvV X e σ H' v := Ev.mono E (fun _ _ _ _ p => p) h
theorem EvT.mono (E : Ext H H') (h : EvT X e σ H k) : EvT X e σ H' k := fun H1 a t Q q => h H1 (E.trans a) t Q fun G H2 f => q _ H2 (f.mono E a)
theorem EvW.mono (E : Ext H H') (h : EvW X e σ H k) : EvW X e σ H' k := fun H1 a t Q q => h H1 (E.trans a) t Q fun G H2 f => q _ H2 (f.mono E a)
theorem EvAD.mono {ds : List PyData} (E : Ext H H') (h : EvAD X es σ H ds) : EvAD X es σ H' ds := fun H1 a t Q q => h H1 (E.trans a) t Q fun v G H2 f p =>
  q v (uni H' G) H2 (f.mono E a) ((uni_r (a.trans f.h) f.g2).dps p)
theorem Ev.imp {P R : VP} (h : Ev X e σ H P) (k : ∀ v G, Ext H G → P v G → R v G) : Ev X e σ H R := fun H1 E t Q q => h H1 E t Q fun v G H2 f p => q v G H2 f (k v G f.g p)
theorem EvV.dat (h : EvV X e σ H v) (r : Dp X.K H v d) : EvD X e σ H d := Ev.imp h fun u G E q => by subst q; exact E.dp r
theorem EvD.toInt {i : Int} (h : EvD X e σ H (.int i)) : EvV X e σ H (.int i) := Ev.imp h fun u _ _ q => by cases q; rfl
theorem EvD.toBl {i : Bool} (h : EvD X e σ H (.bool i)) : EvV X e σ H (.bl i) := Ev.imp h fun u _ _ q => by cases q; rfl
theorem EvD.toStr {i : Str} (h : EvD X e σ H (.str i)) : EvV X e σ H (.str i) := Ev.imp h fun u _ _ q => by cases q; rfl
theorem EvD.to {d' : PyData} (h : EvD X e σ H d) (q : d = d') : EvD X e σ H d' := q ▸ h
theorem EvW.to {b b' : Bool} (h : EvW X e σ H b) (q : b = b') : EvW X e σ H b' := q ▸ h
theorem EvT.to {b b' : Bool} (h : EvT X e σ H b) (q : b = b') : EvT X e σ H b' := q ▸ h
/-! names, constants -/
theorem ev_var (i : Nat) {x : Str} (hi : σ[i]? = some (some v)) (hN : X.N[i]? = some x := by rfl) (hv : Vis X.env.scope x := by first | exact Or.inl rfl | exact Or.inr (Or.inl rfl) | exact Or.inr (Or.inr rfl)) (hd : (x == ("__debug__" : Str)) = false := by decide)
    (hcd : (x == ("__classdict__" : Str)) = false := by decide) : EvV X (.Name x pos) σ H v := fun H1 E t Q q => PE.b (pe_var hN hv hd hcd) ⟨v, hi, q v H H1 (Fr.refl E t) rfl⟩
theorem ev_int {i : Int} {j} : EvD X (.Constant (.int i) j pos) σ H (.int i) := fun H1 E t Q q => PE.b pe_int (q _ H H1 (Fr.refl E t) (.int i))
theorem ev_bl {i : Bool} {j} : EvD X (.Constant (.bool i) j pos) σ H (.bool i) := fun H1 E t Q q => PE.b pe_bl (q _ H H1 (Fr.refl E t) (.bl i))
theorem ev_str {i : String} {j} : EvD X (.Constant (.str i) j pos) σ H (.str i) := fun H1 E t Q q => PE.b pe_str (q _ H H1 (Fr.refl E t) (.str i))
theorem ev_non {j} : EvD X (.Constant .none j pos) σ H .none := fun H1 E t Q q => PE.b pe_non (q _ H H1 (Fr.refl E t) .non)
/-! operations -/
theorem ev_bin {op : Operator} (ha : EvD X a σ H d1) (hb : EvD X b σ H d2) (ho : OpD X (binaryOp op) H d1 d2 d3) : EvD X (.BinOp a op b pos) σ H d3 := fun H1 E t Q q =>
  PE.b (pe_op or_b pe_b pe_b) (ha H1 E t _ fun x G H2 f p => hb.mono f.g H2 f.g2 f.tok _ fun y G2 H3 f2 r => ho G2 H3 (f.g.trans f2.g) f2.g2 f2.tok x y (f2.g.dp p) r Q fun z G3 H4 f3 s => q z G3 H4 ((f.trans f2).trans f3) s)
theorem ev_cmp {op : CmpOp} (ha : EvD X a σ H d1) (hb : EvD X b σ H d2) (ho : OpD X (compareOp op) H d1 d2 d3) (hm : behindInMarks op b = false := by rfl) : EvD X (.Compare a [op] [b] pos) σ H d3 := fun H1 E t Q q =>
  PE.b (pe_cmpR or_b pe_b pe_b hm) (ha H1 E t _ fun x G H2 f p => hb.mono f.g H2 f.g2 f.tok _ fun y G2 H3 f2 r => ho G2 H3 (f.g.trans f2.g) f2.g2 f2.tok x y (f2.g.dp p) r Q fun z G3 H4 f3 s => q z G3 H4 ((f.trans f2).trans f3) s)
theorem et_cmp {op : CmpOp} (ha : EvD X a σ H d1) (hb : EvD X b σ H d2) (ho : OpD X (compareOp op) H d1 d2 (.bool k)) (hm : behindInMarks op b = false := by rfl) : EvT X (.Compare a [op] [b] pos) σ H k := fun H1 E t Q q =>
  PT.b (pt_cmpR or_b pe_b pe_b hm) (ha H1 E t _ fun x G H2 f p => hb.mono f.g H2 f.g2 f.tok _ fun y G2 H3 f2 r => ho G2 H3 (f.g.trans f2.g) f2.g2 f2.tok x y (f2.g.dp p) r _ fun z G3 H4 f3 s => by
    cases s
    exact ⟨k, rfl, q G3 H4 ((f.trans f2).trans f3)⟩)
theorem all_len {K : PySem.W.Frag} {H : Hp} : ∀ {vs : List V} {ds : List PyData}, DpAll K H vs ds → vs.length = ds.length
  | _, _, .nil => rfl
  | _, _, .cons _ r => congrArg (· + 1) (all_len r)
theorem line_of {n : Nat} (h : n ≤ 100000) : n ≤ sizeLine := Nat.le_trans h (by decide)
theorem et_val (h : EvD X e σ H (.bool k)) (he : ∀ whole, isTrue e X.env whole = (do let v ← whole; standAt e.pos; holding [v] (truthy v)) := by intro _; rfl) : EvT X e σ H k := fun H1 E t Q q =>
  PT.b (pt_val pe_b he) (h H1 E t _ fun v G H2 f r => by
    cases r
    exact ⟨k, rfl, q G H2 f⟩)
theorem et_not (h : EvT X e σ H k) : EvT X (.UnaryOp .Not e pos) σ H (!k) := fun H1 E t Q q => PT.b (pt_not pt_b) (h H1 E t _ fun G H2 f => q G H2 f)
theorem et_w (h : EvW X e σ H k) : EvT X e σ H k := fun H1 E t Q q => PT.b (PW.pt pw_b) (h H1 E t _ fun G H2 f => q G H2 f)
theorem ew_and1 (h : EvT X a σ H k) : EvW X (.BoolOp .And [a] pos) σ H k := fun H1 E t Q q => PW.b (pw_and1 pt_b) (h H1 E t _ fun G H2 f => q G H2 f)
theorem ew_or1 (h : EvT X a σ H k) : EvW X (.BoolOp .Or [a] pos) σ H k := fun H1 E t Q q => PW.b (pw_or1 pt_b) (h H1 E t _ fun G H2 f => q G H2 f)
theorem ew_and (h : EvT X a σ H k) (h2 : k = true → EvW X (.BoolOp .And (b :: es) pos) σ H l) : EvW X (.BoolOp .And (a :: b :: es) pos) σ H (k && l) := fun H1 E t Q q =>
  PW.b (pw_and pt_b pw_b) (h H1 E t _ fun G H2 f => by
    cases k with
    | true => exact (h2 rfl).mono f.g H2 f.g2 f.tok _ fun G2 H3 f2 => q G2 H3 (f.trans f2)
    | false => exact q G H2 f)
theorem ew_or (h : EvT X a σ H k) (h2 : k = false → EvW X (.BoolOp .Or (b :: es) pos) σ H l) : EvW X (.BoolOp .Or (a :: b :: es) pos) σ H (k || l) := fun H1 E t Q q =>
  PW.b (pw_or pt_b pw_b) (h H1 E t _ fun G H2 f => by
    cases k with
    | false => exact (h2 rfl).mono f.g H2 f.g2 f.tok _ fun G2 H3 f2 => q G2 H3 (f.trans f2)
    | true => exact q G H2 f)
theorem ev_one {op} (h : EvD X a σ H d) : EvD X (.BoolOp op [a] pos) σ H d := fun H1 E t Q q => PE.b (pe_one pe_b) (h H1 E t Q q)
theorem ev_and (h : EvD X a σ H (.bool k)) (h2 : k = true → EvD X (.BoolOp .And (b :: es) pos) σ H (.bool l)) : EvD X (.BoolOp .And (a :: b :: es) pos) σ H (.bool (k && l)) := fun H1 E t Q q =>
  PE.b (pe_and pe_b pe_b) (h H1 E t _ fun v G H2 f r => by
    cases r
    refine ⟨k, rfl, ?_⟩
    cases k with
    | true => exact (h2 rfl).mono f.g H2 f.g2 f.tok _ fun v G2 H3 f2 r => q v G2 H3 (f.trans f2) r
    | false => exact q _ G H2 f (.bl _))
theorem ev_or (h : EvD X a σ H (.bool k)) (h2 : k = false → EvD X (.BoolOp .Or (b :: es) pos) σ H (.bool l)) : EvD X (.BoolOp .Or (a :: b :: es) pos) σ H (.bool (k || l)) := fun H1 E t Q q =>
  PE.b (pe_or pe_b pe_b) (h H1 E t _ fun v G H2 f r => by
    cases r
    refine ⟨k, rfl, ?_⟩
    cases k with
    | false => exact (h2 rfl).mono f.g H2 f.g2 f.tok _ fun v G2 H3 f2 r => q v G2 H3 (f.trans f2) r
    | true => exact q _ G H2 f (.bl _))
theorem ev_not (h : EvD X a σ H (.bool k)) : EvD X (.UnaryOp .Not a pos) σ H (.bool (!k)) := fun H1 E t Q q =>
  PE.b (pe_not pe_b) (h H1 E t _ fun v G H2 f r => by
    cases r
    exact ⟨k, rfl, q _ G H2 f (.bl _)⟩)
theorem ev_ifx (h : EvT X c σ H k) (h1 : k = true → EvD X a σ H d) (h2 : k = false → EvD X b σ H d) : EvD X (.IfExp c a b pos) σ H d := fun H1 E t Q q =>
  PE.b (pe_ifExp pt_b pe_b pe_b) (h H1 E t _ fun G H2 f => by
    cases k with
    | true => exact (h1 rfl).mono f.g H2 f.g2 f.tok _ fun v G2 H3 f2 r => q v G2 H3 (f.trans f2) r
    | false => exact (h2 rfl).mono f.g H2 f.g2 f.tok _ fun v G2 H3 f2 r => q v G2 H3 (f.trans f2) r)
theorem ev_chain {o o' : CmpOp} (ha : EvD X a σ H d1) (hb : EvD X b σ H d2) (ho : OpD X (compareOp o) H d1 d2 (.bool k)) (hc : k = true → EvD X c σ H d3) (ho' : k = true → OpD X (compareOp o') H d2 d3 (.bool l))
    (hm : lastMarks [o, o'] [b, c] = false := by with_unfolding_all rfl) : EvD X (.Compare a [o, o'] [b, c] pos) σ H (.bool (k && l)) := fun H1 E t Q q =>
  PE.b (pe_chain or_b or_b pe_b pe_b pe_b hm) (ha H1 E t _ fun x G H2 f p => hb.mono f.g H2 f.g2 f.tok _ fun y G2 H3 f2 r => ho G2 H3 (f.g.trans f2.g) f2.g2 f2.tok x y (f2.g.dp p) r _ fun z G3 H4 f3 s => by
    cases s
    refine ⟨k, rfl, ?_⟩
    cases k with
    | true => exact (hc rfl).mono ((f.trans f2).trans f3).g H4 f3.g2 f3.tok _ fun w G4 H5 f4 t => ho' rfl G4 H5 (((f.trans f2).trans f3).trans f4).g f4.g2 f4.tok y w ((f3.trans f4).g.dp r) t Q fun z G5 H6 f5 u => q z G5 H6 ((((f.trans f2).trans f3).trans f4).trans f5) u
    | false => exact q _ G3 H4 ((f.trans f2).trans f3) (.bl _))
theorem et_chain {o o' : CmpOp} (ha : EvD X a σ H d1) (hb : EvD X b σ H d2) (ho : OpD X (compareOp o) H d1 d2 (.bool k)) (hc : k = true → EvD X c σ H d3) (ho' : k = true → OpD X (compareOp o') H d2 d3 (.bool l))
    (hm : lastMarks [o, o'] [b, c] = false := by with_unfolding_all rfl) : EvT X (.Compare a [o, o'] [b, c] pos) σ H (k && l) := fun H1 E t Q q =>
  PT.b (pt_chain or_b or_b pe_b pe_b pe_b hm) (ha H1 E t _ fun x G H2 f p => hb.mono f.g H2 f.g2 f.tok _ fun y G2 H3 f2 r => ho G2 H3 (f.g.trans f2.g) f2.g2 f2.tok x y (f2.g.dp p) r _ fun z G3 H4 f3 s => by
    cases s
    refine ⟨k, rfl, ?_⟩
    cases k with
    | true => exact (hc rfl).mono ((f.trans f2).trans f3).g H4 f3.g2 f3.tok _ fun w G4 H5 f4 t => ho' rfl G4 H5 (((f.trans f2).trans f3).trans f4).g f4.g2 f4.tok y w ((f3.trans f4).g.dp r) t _ fun z G5 H6 f5 u => (by
        cases u
        exact ⟨_, rfl, q G5 H6 ((((f.trans f2).trans f3).trans f4).trans f5)⟩)
    | false => exact ⟨_, rfl, q G3 H4 ((f.trans f2).trans f3)⟩)
/-! arguments -/
theorem ea_nil : EvAD X [] σ H [] := fun H1 E t Q q => PA.b pa_nil (q [] H H1 (Fr.refl E t) .nil)
theorem ea_cons {ds : List PyData} (h : EvD X e σ H d) (h2 : EvAD X es σ H ds) (hs : starEach (e :: es) X.env = (false, eval e X.env) :: starEach es X.env := by rfl) : EvAD X (e :: es) σ H (d :: ds) := fun H1 E t Q q =>
  PA.b (pa_cons pe_b pa_b hs) (h H1 E t _ fun v G H2 f r => h2.mono f.g H2 f.g2 f.tok _ fun vs G2 H3 f2 s => q _ G2 H3 (f.trans f2) (.cons (f2.g.dp r) s))
theorem ev_lst {ds : List PyData} (h : EvAD X es σ H ds) (hl : ds.length ≤ 100000) : EvD X (.List es pos) σ H (.list ds) := fun H1 E t Q q =>
  PE.b (pe_lst pa_b) (h H1 E t _ fun vs G H2 f r => ⟨line_of (by rw [all_len r]; exact hl), fun p hp => q _ _ _ (f.new hp rfl) (.lst (.inl (.inl upd_same)) ((Ext.new (f.g2.fresh hp)).dps r))⟩)
theorem ev_tup {ds : List PyData} {x1} (h : EvAD X es σ H ds) (hl : ds.length ≤ 100000) : EvD X (.Tuple es x1 pos) σ H (.tuple ds) := fun H1 E t Q q =>
  PE.b (pe_tup pa_b) (h H1 E t _ fun vs G H2 f r => ⟨line_of (by rw [all_len r]; exact hl), fun p hp => q _ _ _ (f.new hp rfl) (.tup (.inl (.inl upd_same)) ((Ext.new (f.g2.fresh hp)).dps r))⟩)
end

/-! ### operations upon data -/
section
variable {X : Cx} {H : Hp}
theorem opd_I0 {f : Value → Value → Sem Value} {g : Int → Int → Int} (o : OpR X f (rI0 fun i j => .int (g i j))) {i j : Int} : OpD X f H (.int i) (.int j) (.int (g i j)) := fun G H1 _ E t x y hx hy Q q => by
  cases hx; cases hy
  exact OpR.b o ⟨i, j, rfl, rfl, q _ G H1 (Fr.refl E t) (.int _)⟩
theorem opd_I {f : Value → Value → Sem Value} {c : Int → Int → Prop} {g : Int → Int → Int} (o : OpR X f (rI c fun i j => .int (g i j))) {i j : Int} (hc : c i j) : OpD X f H (.int i) (.int j) (.int (g i j)) := fun G H1 _ E t x y hx hy Q q => by
  cases hx; cases hy
  exact OpR.b o ⟨i, j, rfl, rfl, hc, q _ G H1 (Fr.refl E t) (.int _)⟩
theorem opd_B0 {f : Value → Value → Sem Value} {g : Int → Int → Bool} (o : OpR X f (rI0 fun i j => .bl (g i j))) {i j : Int} : OpD X f H (.int i) (.int j) (.bool (g i j)) := fun G H1 _ E t x y hx hy Q q => by
  cases hx; cases hy
  exact OpR.b o ⟨i, j, rfl, rfl, q _ G H1 (Fr.refl E t) (.bl _)⟩
variable {i j : Int}
theorem opd_add : OpD X (binaryOp .Add) H (.int i) (.int j) (.int (i + j)) := opd_I0 op_add
theorem opd_sub : OpD X (binaryOp .Sub) H (.int i) (.int j) (.int (i - j)) := opd_I0 op_sub
theorem opd_mulL (h : i.natAbs < 2 ^ 64) : OpD X (binaryOp .Mult) H (.int i) (.int j) (.int (i * j)) := opd_I op_mul (.inl ⟨by omega, by omega⟩)
theorem opd_mulR (h : j.natAbs < 2 ^ 64) : OpD X (binaryOp .Mult) H (.int i) (.int j) (.int (i * j)) := opd_I op_mul (.inr ⟨by omega, by omega⟩)
theorem opd_div (h : 0 < j) (h2 : j < 1073741824) : OpD X (binaryOp .FloorDiv) H (.int i) (.int j) (.int (i / j)) := opd_I op_fdiv ⟨h, h2⟩
theorem opd_mod (h : 0 < j) : OpD X (binaryOp .Mod) H (.int i) (.int j) (.int (i % j)) := opd_I op_mod h
theorem opd_pow {n : Nat} (h : i.natAbs < 2 ^ 64) (hn : n ≤ 1000000) : OpD X (binaryOp .Pow) H (.int i) (.int n) (.int (i ^ n)) := by
  have q : OpD X (binaryOp .Pow) H (.int i) (.int (n : Int)) (.int (i ^ (n : Int).toNat)) := opd_I op_pow ⟨by omega, by omega, h⟩
  rw [Int.toNat_natCast] at q
  exact q
theorem opd_lt : OpD X (compareOp .Lt) H (.int i) (.int j) (.bool (decide (i < j))) := opd_B0 op_lt
theorem opd_le : OpD X (compareOp .LtE) H (.int i) (.int j) (.bool (decide (i ≤ j))) := opd_B0 op_le
theorem opd_gt : OpD X (compareOp .Gt) H (.int i) (.int j) (.bool (decide (j < i))) := opd_B0 op_gt
theorem opd_ge : OpD X (compareOp .GtE) H (.int i) (.int j) (.bool (decide (j ≤ i))) := opd_B0 op_ge
theorem opd_eqI : OpD X (compareOp .Eq) H (.int i) (.int j) (.bool (decide (i = j))) := fun G H1 _ E t x y hx hy Q q => by
  cases hx; cases hy
  have e : decide (V.int i = V.int j) = decide (i = j) := by rw [dec_int, Bool.beq_eq_decide_eq]
  exact OpR.b op_eq ⟨rfl, by rw [e]; exact q _ G H1 (Fr.refl E t) (.bl _)⟩
theorem opd_neI : OpD X (compareOp .NotEq) H (.int i) (.int j) (.bool (!decide (i = j))) := fun G H1 _ E t x y hx hy Q q => by
  cases hx; cases hy
  have e : decide (V.int i = V.int j) = decide (i = j) := by rw [dec_int, Bool.beq_eq_decide_eq]
  exact OpR.b op_ne ⟨rfl, by rw [e]; exact q _ G H1 (Fr.refl E t) (.bl _)⟩
theorem opd_eqS {x y : Str} : OpD X (compareOp .Eq) H (.str x) (.str y) (.bool (decide (x = y))) := fun G H1 _ E t _ _ hx hy Q q => by
  cases hx; cases hy
  have e : decide (V.str x = V.str y) = decide (x = y) := by by_cases h : x = y <;> simp [h]
  exact OpR.b op_eq ⟨rfl, by rw [e]; exact q _ G H1 (Fr.refl E t) (.bl _)⟩
theorem opd_neS {x y : Str} : OpD X (compareOp .NotEq) H (.str x) (.str y) (.bool (!decide (x = y))) := fun G H1 _ E t _ _ hx hy Q q => by
  cases hx; cases hy
  have e : decide (V.str x = V.str y) = decide (x = y) := by by_cases h : x = y <;> simp [h]
  exact OpR.b op_ne ⟨rfl, by rw [e]; exact q _ G H1 (Fr.refl E t) (.bl _)⟩
theorem opd_eqB {x y : Bool} : OpD X (compareOp .Eq) H (.bool x) (.bool y) (.bool (x == y)) := fun G H1 _ E t _ _ hx hy Q q => by
  cases hx; cases hy
  exact OpR.b op_eq ⟨rfl, by rw [dec_bl]; exact q _ G H1 (Fr.refl E t) (.bl _)⟩
theorem opd_neB {x y : Bool} : OpD X (compareOp .NotEq) H (.bool x) (.bool y) (.bool (!(x == y))) := fun G H1 _ E t _ _ hx hy Q q => by
  cases hx; cases hy
  exact OpR.b op_ne ⟨rfl, by rw [dec_bl]; exact q _ G H1 (Fr.refl E t) (.bl _)⟩
/-- == of data at any depth -/
theorem opd_eqD (hu : X.A.units + 64 < cLine) {d e : PyData} (sd : SeqAt.shaped d = true) (se : SeqAt.shaped e = true) : OpD X (compareOp .Eq) H d e (.bool (PyData.eqv d e)) := fun G H1 _ E t x y hx hy Q q =>
  OpR.b (op_eqD hu) ⟨d, e, E.dp hx, E.dp hy, sd, se, q _ G H1 (Fr.refl E t) (.bl _)⟩
theorem opd_neD (hu : X.A.units + 64 < cLine) {d e : PyData} (sd : SeqAt.shaped d = true) (se : SeqAt.shaped e = true) : OpD X (compareOp .NotEq) H d e (.bool (!PyData.eqv d e)) := fun G H1 _ E t x y hx hy Q q =>
  OpR.b (op_neD hu) ⟨d, e, E.dp hx, E.dp hy, sd, se, q _ G H1 (Fr.refl E t) (.bl _)⟩
def isNone : PyData → Bool
  | .none => true
  | _ => false
theorem dp_isNon {K : PySem.W.Frag} {H : Hp} {x : V} {d : PyData} (h : Dp K H x d) : decide (x = .non) = isNone d := by
  cases h <;> simp [isNone]
theorem opd_isN {d : PyData} : OpD X (compareOp .Is) H d .none (.bool (isNone d)) := fun G H1 _ E t x y hx hy Q q => by
  cases hy
  exact OpR.b op_isN ⟨rfl, by rw [dp_isNon hx]; exact q _ G H1 (Fr.refl E t) (.bl _)⟩
theorem opd_notN {d : PyData} : OpD X (compareOp .IsNot) H d .none (.bool (!isNone d)) := fun G H1 _ E t x y hx hy Q q => by
  cases hy
  exact OpR.b op_notN ⟨rfl, by rw [dp_isNon hx]; exact q _ G H1 (Fr.refl E t) (.bl _)⟩
theorem opd_catS {x y : Str} (h : x.length + y.length ≤ sizeLine) : OpD X (binaryOp .Add) H (.str x) (.str y) (.str (x ++ y)) := fun G H1 _ E t _ _ hx hy Q q => by
  cases hx; cases hy
  exact OpR.b op_add_str ⟨x, y, rfl, rfl, h, q _ G H1 (Fr.refl E t) (.str _)⟩
end

/-! ### the footprint: a tree of data whose lists are tracked, each at a place of its own -/
mutual
inductive Own (K : PySem.W.Frag) (H : Hp) : V → PyData → List Addr → Prop
  | non : Own K H .non .none []
  | bl (b : Bool) : Own K H (.bl b) (.bool b) []
  | int (i : Int) : Own K H (.int i) (.int i) []
  | str (x : Str) : Own K H (.str x) (.str x) []
  | lst {a : Addr} {xs : List V} {ds : List PyData} {fp : List Addr} : H a = some (.lst xs) → Owns K H xs ds fp → Own K H (.ref a) (.list ds) (a :: fp)
  | tup {a : Addr} {xs : List V} {ds : List PyData} {fp : List Addr} : SqT K H a xs → Owns K H xs ds fp → Own K H (.ref a) (.tuple ds) fp
inductive Owns (K : PySem.W.Frag) (H : Hp) : List V → List PyData → List Addr → Prop
  | nil : Owns K H [] [] []
  | cons {v : V} {vs : List V} {d : PyData} {ds : List PyData} {f g : List Addr} : Own K H v d f → Owns K H vs ds g → Owns K H (v :: vs) (d :: ds) (f ++ g)
end
section
variable {K : PySem.W.Frag} {H H' : Hp}
mutual
theorem Own.dp : ∀ (d : PyData) (v : V) (fp : List Addr), Own K H v d fp → Dp K H v d
  | _, _, _, .non => .non
  | _, _, _, .bl b => .bl b
  | _, _, _, .int i => .int i
  | _, _, _, .str x => .str x
  | .list ds, _, _, .lst h q => .lst (.inl (.inl h)) (Owns.dp ds _ _ q)
  | .tuple ds, _, _, .tup h q => .tup h (Owns.dp ds _ _ q)
theorem Owns.dp : ∀ (ds : List PyData) (vs : List V) (fp : List Addr), Owns K H vs ds fp → DpAll K H vs ds
  | _, _, _, .nil => .nil
  | d :: ds, _, _, .cons h q => .cons (Own.dp d _ _ h) (Owns.dp ds _ _ q)
end
mutual
/-- what is at the footprint and what is a tuple stays -/
theorem Own.stay {fp : List Addr} (hl : ∀ a xs, H a = some (.lst xs) → a ∈ fp → H' a = some (.lst xs)) (ht : ∀ a xs, SqT K H a xs → SqT K H' a xs) : ∀ (d : PyData) (v : V) (f : List Addr), Own K H v d f → (∀ a ∈ f, a ∈ fp) → Own K H' v d f
  | _, _, _, .non, _ => .non
  | _, _, _, .bl b, _ => .bl b
  | _, _, _, .int i, _ => .int i
  | _, _, _, .str x, _ => .str x
  | .list ds, _, _, .lst h q, s => .lst (hl _ _ h (s _ (List.mem_cons_self ..))) (Owns.stay hl ht ds _ _ q fun a m => s a (List.mem_cons_of_mem _ m))
  | .tuple ds, _, _, .tup h q, s => .tup (ht _ _ h) (Owns.stay hl ht ds _ _ q s)
theorem Owns.stay {fp : List Addr} (hl : ∀ a xs, H a = some (.lst xs) → a ∈ fp → H' a = some (.lst xs)) (ht : ∀ a xs, SqT K H a xs → SqT K H' a xs) : ∀ (ds : List PyData) (vs : List V) (f : List Addr), Owns K H vs ds f → (∀ a ∈ f, a ∈ fp) → Owns K H' vs ds f
  | _, _, _, .nil, _ => .nil
  | d :: ds, _, _, .cons h q, s => .cons (Own.stay hl ht d _ _ h fun a m => s a (List.mem_append_left _ m)) (Owns.stay hl ht ds _ _ q fun a m => s a (List.mem_append_right _ m))
end
theorem Own.ext {d : PyData} {v : V} {fp : List Addr} (e : Ext H H') (h : Own K H v d fp) : Own K H' v d fp := Own.stay (fp := fp) (fun _ _ q _ => e.keep _ _ q rfl) (fun _ _ q => e.t q) d v fp h fun _ m => m
theorem Owns.ext {d : List PyData} {v : List V} {fp : List Addr} (e : Ext H H') (h : Owns K H v d fp) : Owns K H' v d fp := Owns.stay (fp := fp) (fun _ _ q _ => e.keep _ _ q rfl) (fun _ _ q => e.t q) d v fp h fun _ m => m
mutual
theorem Own.dom : ∀ (d : PyData) (v : V) (f : List Addr), Own K H v d f → ∀ a ∈ f, ∃ xs, H a = some (.lst xs)
  | _, _, _, .non, _, m => nomatch m
  | _, _, _, .bl b, _, m => nomatch m
  | _, _, _, .int i, _, m => nomatch m
  | _, _, _, .str x, _, m => nomatch m
  | .list ds, _, _, .lst h q, a, m => by
    rcases List.mem_cons.mp m with e | m
    · exact ⟨_, e ▸ h⟩
    · exact Owns.dom ds _ _ q a m
  | .tuple ds, _, _, .tup h q, a, m => Owns.dom ds _ _ q a m
theorem Owns.dom : ∀ (ds : List PyData) (vs : List V) (f : List Addr), Owns K H vs ds f → ∀ a ∈ f, ∃ xs, H a = some (.lst xs)
  | _, _, _, .nil, _, m => nomatch m
  | d :: ds, _, _, .cons h q, a, m => by
    rcases List.mem_append.mp m with m | m
    · exact Own.dom d _ _ h a m
    · exact Owns.dom ds _ _ q a m
end
/-- a store at a place that is not in the footprint -/
theorem Own.upd_out {d : PyData} {v : V} {fp : List Addr} {a : Addr} {o : HO} (h : Own K H v d fp) (n : a ∉ fp) (ha : ∃ xs, H a = some (.lst xs)) : Own K (upd H a o) v d fp :=
  Own.stay (fp := fp) (fun b xs q m => by rw [upd_ne (fun z : b = a => n (by rw [← z]; exact m))]; exact q) (fun b xs q => by
    obtain ⟨ys, ha⟩ := ha
    rcases q with q | q
    · rcases q with q | ⟨ob, q⟩
      · exact .inl (.inl (by rw [upd_ne (ne_of q ha (fun z => nomatch z))]; exact q))
      · exact .inl (.inr ⟨ob, by rw [upd_ne (ne_of q ha (fun z => nomatch z))]; exact q⟩)
    · exact .inr q) d v fp h fun _ m => m
end

/-! ### calls -/
/-- a built-in called by values -/
def bC (X : Cx) (f : Value) : List V → Hp → VK → Prop := fun vs H Q => ∀ pins s σ us, Inv X pins σ H s → Vals vs us → wpAny (model X.prog X.w) X.A (call f us) (EP X pins σ Q) X.xe s
theorem cr_b {X : Cx} {f : Value} : CallR X f (bC X f) := fun pins s σ _ _ us _ I r h => h pins s σ us I r
theorem CallR.b {X : Cx} {f : Value} {r : List V → Hp → VK → Prop} (o : CallR X f r) {vs : List V} {H : Hp} {Q : VK} (h : r vs H Q) : bC X f vs H Q := fun pins s σ us I rv => o pins s σ H vs us Q I rv h
def CallD (X : Cx) (f : Value) (H : Hp) (ds : List PyData) (d : PyData) : Prop := ∀ G H1, Ext H G → Ext G H1 → TabsOk X.K H1 → ∀ vs, DpAll X.K G vs ds → ∀ Q : VK, (∀ z G' H2, Fr X.K G H1 G' H2 → Dp X.K G' z d → Q z H2) → bC X f vs H1 Q
/-- a method of a built-in type by values -/
def bM (X : Cx) (id : String) : V → List V → Hp → VK → Prop := fun x vs H Q => ∀ pins s σ v us, Inv X pins σ H s → RelV x v → Vals vs us → wpAny (model X.prog X.w) X.A (call (.builtin id) (v :: us)) (EP X pins σ Q) X.xe s
theorem mr_b {X : Cx} {id : String} : MtR X id (bM X id) := fun pins s σ _ _ _ v us _ I r r2 h => h pins s σ v us I r r2
theorem MtR.b {X : Cx} {id : String} {r : V → List V → Hp → VK → Prop} (o : MtR X id r) {x : V} {vs : List V} {H : Hp} {Q : VK} (h : r x vs H Q) : bM X id x vs H Q := fun pins s σ v us I rx rv => o pins s σ H x vs v us Q I rx rv h
/-- a subscript by values -/
def bI (X : Cx) : R2 := fun x y H Q => ∀ (value slice : Expr) pins s σ v u, Inv X pins σ H s → RelV x v → RelV y u → subscripted slice false v u = operate [v, u] (getItem v u) → wpAny (model X.prog X.w) X.A (subscriptTail value slice v u) (EP X pins σ Q) X.xe s
theorem ir_b {X : Cx} : IxR X (bI X) := fun a b pins s σ _ _ _ v u _ I rx ry h hs => h a b pins s σ v u I rx ry hs
theorem IxR.b {X : Cx} {r : R2} (o : IxR X r) {x y : V} {H : Hp} {Q : VK} (h : r x y H Q) : bI X x y H Q := fun a b pins s σ v u I rx ry hs => o a b pins s σ H x y v u Q I rx ry h hs
/-- a def's promise: from such data comes such data (R), while T stands -/
def SpR (K : PySem.W.Frag) (T : Hp → Prop) (R : List PyData → PyData → Prop) : Sp := fun vs H Q _ => ∃ G ds d, Ext G H ∧ TabsOk K H ∧ DpAll K G vs ds ∧ T G ∧ R ds d ∧ ∀ v G' H2, Fr K G H G' H2 → Dp K G' v d → Q v H2
/-- .. comes new data, each list at a new place of its own -/
def SpN (K : PySem.W.Frag) (T : Hp → Prop) (R : List PyData → PyData → Prop) : Sp := fun vs H Q _ => ∃ G ds d, Ext G H ∧ TabsOk K H ∧ DpAll K G vs ds ∧ T G ∧ R ds d ∧ ∀ v G' H2 fp, Fr K G H G' H2 → Own K G' v d fp → fp.Nodup → (∀ a ∈ fp, G a = none) → Q v H2
section
variable {X : Cx} {σ : L2.St} {H H' : Hp} {e a b c : Expr} {es : List Expr} {d d1 d2 d3 : PyData} {ds : List PyData} {v x y : V} {pos p apos : Pos} {k l : Bool} {n id T : String} {nm : Str}
theorem ev_callB (ha : EvAD X (e :: es) σ H ds) (hc : CallD X (.builtin id) H ds d) (hg : Gl X n) (hm : X.mg n = none) (hv : bootBuiltins n = some (.builtin id)) (hn : (n : Str) ≠ "__name__" := by decide) (hdb : ((n : Str) == ("__debug__" : Str)) = false := by decide)
    (he : starEach (e :: es) X.env = (false, eval e X.env) :: starEach es X.env := by rfl) (hpl : (backTo pos (starEach es X.env)).any (·.1) = false := by rfl) : EvD X (.Call (.Name n p) (e :: es) [] pos) σ H d := fun H1 E t Q q =>
  PE.b (pe_callB cr_b hg hm hv pa_b hn hdb he hpl) (ha H1 E t _ fun vs G H2 f r => hc G H2 f.g f.g2 f.tok vs r Q fun z G2 H3 f2 s => q z G2 H3 (f.trans f2) s)
theorem ev_callTy (ha : EvAD X (e :: es) σ H ds) (hc : CallD X (.type T) H ds d) (hg : Gl X n) (hm : X.mg n = none) (hv : bootBuiltins n = some (.type T)) (hn : (n : Str) ≠ "__name__" := by decide) (hdb : ((n : Str) == ("__debug__" : Str)) = false := by decide)
    (he : starEach (e :: es) X.env = (false, eval e X.env) :: starEach es X.env := by rfl) (hpl : (backTo pos (starEach es X.env)).any (·.1) = false := by rfl) : EvD X (.Call (.Name n p) (e :: es) [] pos) σ H d := fun H1 E t Q q =>
  PE.b (pe_callTy cr_b hg hm hv pa_b hn hdb he hpl) (ha H1 E t _ fun vs G H2 f r => hc G H2 f.g f.g2 f.tok vs r Q fun z G2 H3 f2 s => q z G2 H3 (f.trans f2) s)
/-- o.m(e, ..) of a built-in type that changes nothing -/
theorem ev_bm (pa : PlainAttrs T) (slot : Slot T nm id) (hty : typeOf (.builtin id) = pure (.type "method_descriptor")) (ho : EvD X b σ H d1) (ha : EvAD X (e :: es) σ H ds)
    (ht : ∀ H1 x, Dp X.K H1 x d1 → tyV X.K T x H1) (hc : ∀ G H1, Ext H G → Ext G H1 → TabsOk X.K H1 → ∀ x vs, Dp X.K G x d1 → DpAll X.K G vs ds → ∀ Q : VK, (∀ z G' H2, Fr X.K G H1 G' H2 → Dp X.K G' z d → Q z H2) → bM X id x vs H1 Q)
    (hbase : attributeBase b nm X.env (eval b X.env) = eval b X.env := by rfl)
    (hfew : ((backTo pos (starEach (e :: es) X.env)).all (fun x => !x.1) && (backToKw pos (keywordEach [] X.env)).all (fun x => x.1.isSome)
      && decide ((e :: es).length + ([] : List Keyword).length + (if ([] : List Keyword).isEmpty then 0 else 1) < 30)) = true := by rfl)
    (hline : (apos.endLine == pos.line) = true := by rfl) (hs : starEach (e :: es) X.env = (false, eval e X.env) :: starEach es X.env := by rfl) (hplain : (backTo pos (starEach es X.env)).any (·.1) = false := by rfl) :
    EvD X (.Call (.Attribute b nm apos) (e :: es) [] pos) σ H d := fun H1 E t Q q =>
  PE.b (pe_bm pa slot hty mr_b pe_b pa_b hbase hfew hline hs hplain) (ho H1 E t _ fun x G H2 f r => ⟨ht H2 x (f.g2.dp r), ha.mono f.g H2 f.g2 f.tok _ fun vs G2 H3 f2 s => hc G2 H3 (f.trans f2).g f2.g2 f2.tok x vs (f2.g.dp r) s Q fun z G3 H4 f3 t => q z G3 H4 ((f.trans f2).trans f3) t⟩)
theorem ev_ix (ha : EvD X a σ H d1) (hb : EvD X b σ H d2) (hi : ∀ G H1, Ext H G → Ext G H1 → ∀ x y, Dp X.K G x d1 → Dp X.K G y d2 → ∀ Q : VK, (∀ z, Dp X.K G z d3 → Q z H1) → bI X x y H1 Q) (hs : PlainIx b := by exact fun _ _ => rfl) : EvD X (.Subscript a b pos) σ H d3 := fun H1 E t Q q =>
  PE.b (pe_ix ir_b pe_b pe_b hs) (ha H1 E t _ fun x G H2 f r => hb.mono f.g H2 f.g2 f.tok _ fun y G2 H3 f2 s => hi G2 H3 (f.trans f2).g f2.g2 x y (f2.g.dp r) s Q fun z t => q z G2 H3 (f.trans f2) t)
theorem all_get {K : PySem.W.Frag} {H : Hp} : ∀ {vs : List V} {ds : List PyData}, DpAll K H vs ds → ∀ {i : Nat} {d : PyData}, ds[i]? = some d → ∃ v, vs[i]? = some v ∧ Dp K H v d
  | _, _, .nil, _, _, h => by simp at h
  | _, _, .cons r _, 0, _, h => by simp at h; subst h; exact ⟨_, rfl, r⟩
  | _, _, .cons _ q, i + 1, _, h => by
    obtain ⟨v, h1, h2⟩ := all_get q (i := i) (by simpa using h)
    exact ⟨v, by simpa using h1, h2⟩
theorem all_atI {K : PySem.W.Frag} {H : Hp} {vs : List V} {ds : List PyData} (r : DpAll K H vs ds) {i : Int} {d : PyData} (h : atI ds i = some d) : ∃ v, atI vs i = some v ∧ Dp K H v d := by
  unfold atI at h ⊢
  rw [all_len r]
  cases q : ixN ds.length i with
  | none => rw [q] at h; cases h
  | some j =>
    rw [q] at h
    exact all_get r h
theorem ix_l {ds : List PyData} {i : Int} (h : atI ds i = some d) : ∀ G H1, Ext H G → Ext G H1 → ∀ x y, Dp X.K G x (.list ds) → Dp X.K G y (.int i) → ∀ Q : VK, (∀ z, Dp X.K G z d → Q z H1) → bI X x y H1 Q := fun G H1 _ E x y hx hy Q q => by
  cases hy
  cases hx with
  | lst hs r =>
    obtain ⟨v, h1, h2⟩ := all_atI r h
    exact IxR.b ix_list ⟨_, _, _, _, rfl, rfl, E.l hs, h1, q _ h2⟩
theorem ix_t {ds : List PyData} {i : Int} (h : atI ds i = some d) : ∀ G H1, Ext H G → Ext G H1 → ∀ x y, Dp X.K G x (.tuple ds) → Dp X.K G y (.int i) → ∀ Q : VK, (∀ z, Dp X.K G z d → Q z H1) → bI X x y H1 Q := fun G H1 _ E x y hx hy Q q => by
  cases hy
  cases hx with
  | tup hs r =>
    obtain ⟨v, h1, h2⟩ := all_atI r h
    exact IxR.b ix_tup ⟨_, _, _, _, rfl, rfl, E.t hs, h1, q _ h2⟩
theorem ix_s {z : Str} {i : Int} {c : Nat} (hl : z.length ≤ sizeLine) (h : atI z.cps.toList i = some c) : ∀ G H1, Ext H G → Ext G H1 → ∀ x y, Dp X.K G x (.str z) → Dp X.K G y (.int i) → ∀ Q : VK, (∀ u, Dp X.K G u (.str ⟨#[c]⟩) → Q u H1) → bI X x y H1 Q := fun G H1 _ E x y hx hy Q q => by
  cases hy
  cases hx
  exact IxR.b ix_str ⟨z, i, c, rfl, rfl, hl, h, q _ (.str _)⟩
/-! a def of the program called -/
theorem ev_call {CX : CXT} {k : Nat} {f : Addr} {fd : FuncData} {ps : List Str} {T : Hp → Prop} {R : List PyData → PyData → Prop} {E : XK} {nm : Str} (F : FnOk X.prog X.w X.K X.mg X.base CX k f fd ps (SpR X.K T R)) (hr : Room k X.A) (hg : Gl X nm) (hm : X.mg nm = some (.ref f)) (hk : PySem.W.keepIn X.K (.ref f) = true) (hb : Binds X.K fd ps [])
    (hx : Passes CX X E) (ha : EvAD X (e :: es) σ H ds) (hR : R ds d) (hT : ∀ H1, Ext H H1 → T H1) (hdb : (nm == ("__debug__" : Str)) = false := by decide) (he : starEach (e :: es) X.env = (false, eval e X.env) :: starEach es X.env := by rfl) (hpl : (backTo pos (starEach es X.env)).any (·.1) = false := by rfl) :
    EvD X (.Call (.Name nm p) (e :: es) [] pos) σ H d := fun H1 E1 t Q q =>
  PE.b (pe_call F hr hg hm hk hb .nil hx pa_b hdb he hpl) (ha H1 E1 t _ fun vs G H2 f r => by
    refine ⟨G, ds, d, f.g2, f.tok, ?_, hT _ f.g, hR, fun v G2 H3 f2 s => q v G2 H3 (f.trans f2) s⟩
    rw [List.append_nil]
    exact r)
theorem ev_callN {CX : CXT} {k : Nat} {f : Addr} {fd : FuncData} {ps : List Str} {T : Hp → Prop} {R : List PyData → PyData → Prop} {E : XK} {nm : Str} (F : FnOk X.prog X.w X.K X.mg X.base CX k f fd ps (SpN X.K T R)) (hr : Room k X.A) (hg : Gl X nm) (hm : X.mg nm = some (.ref f)) (hk : PySem.W.keepIn X.K (.ref f) = true) (hb : Binds X.K fd ps [])
    (hx : Passes CX X E) (ha : EvAD X (e :: es) σ H ds) (hR : R ds d) (hT : ∀ H1, Ext H H1 → T H1) (hdb : (nm == ("__debug__" : Str)) = false := by decide) (he : starEach (e :: es) X.env = (false, eval e X.env) :: starEach es X.env := by rfl) (hpl : (backTo pos (starEach es X.env)).any (·.1) = false := by rfl) :
    Ev X (.Call (.Name nm p) (e :: es) [] pos) σ H (fun v G => ∃ fp, Own X.K G v d fp ∧ fp.Nodup ∧ ∀ a ∈ fp, H a = none) := fun H1 E1 t Q q =>
  PE.b (pe_call F hr hg hm hk hb .nil hx pa_b hdb he hpl) (ha H1 E1 t _ fun vs G H2 f r => by
    refine ⟨G, ds, d, f.g2, f.tok, ?_, hT _ f.g, hR, fun v G2 H3 fp f2 s n z => q v G2 H3 (f.trans f2) ⟨fp, s, n, fun a m => f.g.fresh (z a m)⟩⟩
    rw [List.append_nil]
    exact r)
end

/-! ### statements -/
section
variable {X : Cx} {σ : L2.St} {H H' Hb : Hp} {e a b c : Expr} {es : List Expr} {sts s1 s2 : List Stmt} {d d1 d2 d3 : PyData} {ds : List PyData} {v x y : V} {pos p apos : Pos} {k l : Bool} {D : Ends}
theorem bb_nil (q : D.nx σ H) : bB X [] D σ H := PSs.b pss_nil q
theorem bb_cons {st : Stmt} (q : bS X st { D with nx := bB X sts D } σ H) : bB X (st :: sts) D σ H := PSs.b (pss_cons ps_b pss_b) q
/-- x = e, evaluated upon the base Hb -/
theorem bs_set (i : Nat) (hN : X.N.Nodup) {n : Str} {pos' : Pos} {P : VP} (h : Ev X e σ Hb P) (B : Ext Hb H) (t : TabsOk X.K H) (q : ∀ v G H2, Fr X.K Hb H G H2 → P v G → D.nx (σ.set i (some v)) H2) (hi : X.N[i]? = some n := by rfl)
    (hx : Loc X.env.scope n := by first | exact Or.inl rfl | exact Or.inr rfl) (hs : swapsWith e (some (.Name n pos')) pos.line X.env = pure false := by rfl) (hf : X.fn n = true ∨ X.env.scope.names.lookup n = some .local := by first | exact .inl rfl | exact .inr rfl) :
    bS X (.Assign [.Name n pos'] e pos) D σ H := PS.b (ps_set hN hi hx pe_b hs hf) (h H B t _ fun v G H2 f r => q v G H2 f r)
theorem bs_ret {P : VP} (h : Ev X e σ Hb P) (B : Ext Hb H) (t : TabsOk X.K H) (q : ∀ v G H2, Fr X.K Hb H G H2 → P v G → D.rt v H2) : bS X (.Return (some e) pos) D σ H := PS.b (ps_ret pe_b) (h H B t _ fun v G H2 f r => q v G H2 f r)
theorem bs_expr {P : VP} (h : Ev X e σ Hb P) (B : Ext Hb H) (t : TabsOk X.K H) (q : ∀ v G H2, Fr X.K Hb H G H2 → P v G → D.nx σ H2) (hs : swapsWith e none pos.line X.env = pure false := by rfl) : bS X (.Expr e pos) D σ H := PS.b (ps_expr pe_b hs) (h H B t _ fun v G H2 f r => q v G H2 f r)
theorem bs_if (h : EvT X c σ Hb k) (B : Ext Hb H) (t : TabsOk X.K H) (q1 : k = true → ∀ G H2, Fr X.K Hb H G H2 → bB X s1 D σ H2) (q2 : k = false → ∀ G H2, Fr X.K Hb H G H2 → bB X s2 D σ H2) : bS X (.If c s1 s2 pos) D σ H :=
  PS.b (ps_if pt_b pss_b pss_b) (h H B t _ fun G H2 f => by
    cases k with
    | true => exact q1 rfl G H2 f
    | false => exact q2 rfl G H2 f)
theorem bs_pass (q : D.nx σ H) : bS X (.Pass pos) D σ H := PS.b ps_pass q
/-- a for over a list at a known place; Pv: the turn, the slots, the heap -/
theorem bs_forL {i : Nat} {n : Str} {p0 : Pos} {iter : Expr} {body : List Stmt} {ad : Addr} {xs : List V} (Pv : Nat → L2.St → Hp → Prop) (h : EvV X iter σ Hb (.ref ad)) (B : Ext Hb H) (t : TabsOk X.K H) (hx : ∀ G, Ext Hb G → SqL X.K G ad xs)
    (h0 : ∀ G H2, Fr X.K Hb H G H2 → Pv 0 σ H2) (hl : ∀ j σ' H', j ≤ xs.length → Pv j σ' H' → SqL X.K H' ad xs)
    (hs : ∀ j x σ' H', xs[j]? = some x → Pv j σ' H' → bB X body { D with nx := Pv (j + 1), ct := Pv (j + 1), bk := D.nx } (σ'.set i (some x)) H') (hd : ∀ σ' H', Pv xs.length σ' H' → D.nx σ' H')
    (hp : PassesOwn (model X.prog X.w) X.A X.env X.xe) (hN : X.N.Nodup) (hc : X.calm = true := by rfl) (hi : X.N[i]? = some n := by rfl)
    (hn : Loc X.env.scope n := by first | exact Or.inl rfl | exact Or.inr rfl) (hf : X.fn n = true ∨ X.env.scope.names.lookup n = some .local := by first | exact .inl rfl | exact .inr rfl) (hfs : ∀ x, foldedSetIterable iter X.env x = pure x := by intro _; rfl) : bS X (.For (.Name n p0) iter body [] pos) D σ H :=
  PS.b (ps_for hp hc (pi_list pe_b) (pg_name hN hi hn hf) pss_b hfs) (h H B t _ fun v G H2 f e => ⟨ad, e, ⟨xs, f.g2.l (hx G f.g)⟩, L2.for_list Pv (h0 G H2 f) hl hs hd⟩)
/-- a for over range(n) -/
theorem bs_forR {i : Nat} {n : Str} {p0 p1 p2 : Pos} {m : Expr} {body : List Stmt} {N : Int} (Pv : Nat → L2.St → Hp → Prop) (h : EvD X m σ Hb (.int N)) (B : Ext Hb H) (t : TabsOk X.K H) (h1 : -(2 ^ 62) ≤ N) (h2 : N < 2 ^ 62)
    (h0 : ∀ G H2, Fr X.K Hb H G H2 → Pv 0 σ H2)
    (hs : ∀ (j : Nat) σ' H', (j : Int) < N → Pv j σ' H' → bB X body { D with nx := Pv (j + 1), ct := Pv (j + 1), bk := D.nx } (σ'.set i (some (.int (j : Int)))) H') (hd : ∀ σ' H', Pv N.toNat σ' H' → D.nx σ' H')
    (hp : PassesOwn (model X.prog X.w) X.A X.env X.xe) (hm : X.mg "range" = none) (hN : X.N.Nodup) (hg : Gl X "range" := by rfl) (hc : X.calm = true := by rfl) (hi : X.N[i]? = some n := by rfl)
    (hn : Loc X.env.scope n := by first | exact Or.inl rfl | exact Or.inr rfl) (hf : X.fn n = true ∨ X.env.scope.names.lookup n = some .local := by first | exact .inl rfl | exact .inr rfl) (hst : starEach [m] X.env = [(false, eval m X.env)] := by rfl) : bS X (.For (.Name n p0) (.Call (.Name "range" p1) [m] [] p2) body [] pos) D σ H :=
  PS.b (ps_for hp hc (pi_range1 hg hm (pa_cons pe_b pa_nil hst) hst) (pg_name hN hi hn hf) pss_b) (h H B t _ fun v G H2 f e => by
    cases e
    refine ⟨N, rfl, h1, h2, L2.for_range (lo := 0) (n := N.toNat) Pv (h0 G H2 f) (fun j σ' H' hj p => ?_) hd⟩
    have e0 : (0 : Int) + (j : Int) = (j : Int) := Int.zero_add _
    show bB X body { D with nx := Pv (j + 1), ct := Pv (j + 1), bk := D.nx } (σ'.set i (some (.int ((0 : Int) + (j : Int))))) H'
    rw [e0]
    exact hs j σ' H' (by omega) p)
end
end C

namespace C
open PySem L2
open PyProof.Rows (subscriptTail)

/-! ### lists of data of known length -/
section
variable {K : PySem.W.Frag} {H : Hp}
theorem all0 {vs : List V} (h : DpAll K H vs []) : vs = [] := by cases h; rfl
theorem allc {vs : List V} {d : PyData} {ds : List PyData} (h : DpAll K H vs (d :: ds)) : ∃ v us, vs = v :: us ∧ Dp K H v d ∧ DpAll K H us ds := by
  cases h with
  | cons a b => exact ⟨_, _, rfl, a, b⟩
theorem all1 {vs : List V} {a : PyData} (h : DpAll K H vs [a]) : ∃ x, vs = [x] ∧ Dp K H x a := by
  obtain ⟨x, us, rfl, h1, h2⟩ := allc h
  cases all0 h2
  exact ⟨x, rfl, h1⟩
theorem all2 {vs : List V} {a b : PyData} (h : DpAll K H vs [a, b]) : ∃ x y, vs = [x, y] ∧ Dp K H x a ∧ Dp K H y b := by
  obtain ⟨x, us, rfl, h1, h2⟩ := allc h
  obtain ⟨y, rfl, h3⟩ := all1 h2
  exact ⟨x, y, rfl, h1, h3⟩
theorem all3 {vs : List V} {a b c : PyData} (h : DpAll K H vs [a, b, c]) : ∃ x y z, vs = [x, y, z] ∧ Dp K H x a ∧ Dp K H y b ∧ Dp K H z c := by
  obtain ⟨x, us, rfl, h1, h2⟩ := allc h
  obtain ⟨y, z, rfl, h3, h4⟩ := all2 h2
  exact ⟨x, y, z, rfl, h1, h3, h4⟩
theorem all4 {vs : List V} {a b c d : PyData} (h : DpAll K H vs [a, b, c, d]) : ∃ x y z u, vs = [x, y, z, u] ∧ Dp K H x a ∧ Dp K H y b ∧ Dp K H z c ∧ Dp K H u d := by
  obtain ⟨x, us, rfl, h1, h2⟩ := allc h
  obtain ⟨y, z, u, rfl, h3⟩ := all3 h2
  exact ⟨x, y, z, u, rfl, h1, h3⟩
theorem all5 {vs : List V} {a b c d e : PyData} (h : DpAll K H vs [a, b, c, d, e]) : ∃ x y z u v, vs = [x, y, z, u, v] ∧ Dp K H x a ∧ Dp K H y b ∧ Dp K H z c ∧ Dp K H u d ∧ Dp K H v e := by
  obtain ⟨x, us, rfl, h1, h2⟩ := allc h
  obtain ⟨y, z, u, v, rfl, h3⟩ := all4 h2
  exact ⟨x, y, z, u, v, rfl, h1, h3⟩
theorem dp_int {v : V} {i : Int} (h : Dp K H v (.int i)) : v = .int i := by cases h; rfl
theorem dp_str {v : V} {i : Str} (h : Dp K H v (.str i)) : v = .str i := by cases h; rfl
theorem dp_bl {v : V} {i : Bool} (h : Dp K H v (.bool i)) : v = .bl i := by cases h; rfl
theorem dp_non {v : V} (h : Dp K H v .none) : v = .non := by cases h; rfl
theorem dp_lst {v : V} {ds : List PyData} (h : Dp K H v (.list ds)) : ∃ a xs, v = .ref a ∧ SqL K H a xs ∧ DpAll K H xs ds := by
  cases h with
  | lst a b => exact ⟨_, _, rfl, a, b⟩
theorem dp_tup {v : V} {ds : List PyData} (h : Dp K H v (.tuple ds)) : ∃ a xs, v = .ref a ∧ SqT K H a xs ∧ DpAll K H xs ds := by
  cases h with
  | tup a b => exact ⟨_, _, rfl, a, b⟩
end

/-! ### isinstance -/
def tyName : PyData → String
  | .none => "NoneType"
  | .bool _ => "bool"
  | .int _ => "int"
  | .str _ => "str"
  | .list _ => "list"
  | .tuple _ => "tuple"
  | .dict _ => "dict"
theorem tyx_of {K : PySem.W.Frag} {H : Hp} {x : V} {d : PyData} (h : Dp K H x d) : TyX K H x (.type (tyName d)) := by
  cases h with
  | non => exact .base .non
  | bl b => exact .base (.bl b)
  | int i => exact .base (.int i)
  | str x => exact .base (.str x)
  | lst hs _ =>
    rcases hs with (hs | ⟨o, hs⟩) | ⟨o, _, _, h1, h2, _⟩
    · exact .base (.lst hs)
    · exact .base (.frz hs)
    · exact .kList h1 h2
  | tup hs _ =>
    rcases hs with (hs | ⟨o, hs⟩) | ⟨o, _, _, h1, h2, _⟩
    · exact .base (.tup hs)
    · exact .fTuple hs
    · exact .kTuple h1 h2
section
variable {X : Cx} {σ : L2.St} {H H' Hb : Hp} {e a b c : Expr} {es : List Expr} {sts s1 s2 : List Stmt} {d d1 d2 d3 : PyData} {ds : List PyData} {v x y : V} {pos p p2 apos : Pos} {k l : Bool} {D : Ends} {T : String}
theorem ev_isi (ha : EvD X a σ H d) (hk : kitB (tyName d) T = some k) (hm : X.mg "isinstance" = none) (hmT : X.mg T = none) (hv : bootBuiltins T = some (.type T)) (hg : Gl X "isinstance" := by rfl) (hgT : Gl X T := by rfl)
    (hn : (T : Str) ≠ "__name__" := by decide) (hd : ((T : Str) == ("__debug__" : Str)) = false := by decide)
    (he : starEach [a, .Name T p2] X.env = (false, eval a X.env) :: starEach [.Name T p2] X.env := by rfl) (he2 : starEach [.Name T p2] X.env = [(false, eval (.Name T p2) X.env)] := by rfl) (hpl : (backTo pos (starEach [.Name T p2] X.env)).any (·.1) = false := by rfl) :
    EvD X (.Call (.Name "isinstance" p) [a, .Name T p2] [] pos) σ H (.bool k) := fun H1 E t Q q =>
  PE.b (pe_callB call_isi hg hm (by decide +kernel) (pa_cons pe_b (pa_cons (pe_bltn (v := .ty T) hgT hmT hv rfl hn hd) pa_nil he2) he) (by decide) (by decide) he hpl)
    (ha H1 E t _ fun v G H2 f r => ⟨v, .ty T, _, _, k, rfl, .ty T, tyx_of (f.g2.dp r), kit_ty hk, q _ G H2 f (.bl k)⟩)
/-! ### len -/
theorem cd_lenL : CallD X (.builtin "len") H [.list ds] (.int (ds.length : Int)) := fun G H1 _ E t vs h Q q => by
  cases h with
  | cons h r =>
    cases r
    cases h with
    | lst hs r => exact CallR.b call_len_seq ⟨_, _, rfl, .inl (E.l hs), by rw [all_len r]; exact q _ G H1 (Fr.refl E t) (.int _)⟩
theorem cd_lenT : CallD X (.builtin "len") H [.tuple ds] (.int (ds.length : Int)) := fun G H1 _ E t vs h Q q => by
  cases h with
  | cons h r =>
    cases r
    cases h with
    | tup hs r => exact CallR.b call_len_seq ⟨_, _, rfl, .inr (E.t hs), by rw [all_len r]; exact q _ G H1 (Fr.refl E t) (.int _)⟩
theorem cd_lenS {z : Str} (hz : z.length ≤ sizeLine) : CallD X (.builtin "len") H [.str z] (.int (z.length : Int)) := fun G H1 _ E t vs h Q q => by
  cases h with
  | cons h r =>
    cases r
    cases h
    exact CallR.b call_len_str ⟨z, rfl, hz, q _ G H1 (Fr.refl E t) (.int _)⟩
/-! ### x in a tuple -/
theorem opd_inT (hu : X.A.units + 65 < cLine) {d : PyData} {ds : List PyData} (sd : SeqAt.shaped d = true) (se : SeqAt.shaped (.tuple ds) = true) : OpD X (compareOp .In) H d (.tuple ds) (.bool (ds.any fun z => PyData.eqv z d)) := fun G H1 _ E t x y hx hy Q q => by
  intro pins s σ v u I rx ry
  obtain ⟨as, r1⟩ := Dp.reads I d x v (E.dp hx) rx
  obtain ⟨bs, r2⟩ := Dp.reads I (.tuple ds) y u (E.dp hy) ry
  exact SeqAt.in_tuple_reads r2 r1 (SeqAt.canLay_of_shaped se) (SeqAt.canLay_of_shaped sd) (PyProof.Rows.room_in_shaped sd hu) ⟨.bl _, _, I, rfl, q _ G H1 (Fr.refl E t) (.bl _)⟩
theorem opd_notInT (hu : X.A.units + 65 < cLine) {d : PyData} {ds : List PyData} (sd : SeqAt.shaped d = true) (se : SeqAt.shaped (.tuple ds) = true) : OpD X (compareOp .NotIn) H d (.tuple ds) (.bool (!ds.any fun z => PyData.eqv z d)) := fun G H1 _ E t x y hx hy Q q => by
  intro pins s σ v u I rx ry
  obtain ⟨as, r1⟩ := Dp.reads I d x v (E.dp hx) rx
  obtain ⟨bs, r2⟩ := Dp.reads I (.tuple ds) y u (E.dp hy) ry
  exact SeqAt.notIn_tuple_reads r2 r1 (SeqAt.canLay_of_shaped se) (SeqAt.canLay_of_shaped sd) (PyProof.Rows.room_in_shaped sd hu) ⟨.bl _, _, I, rfl, q _ G H1 (Fr.refl E t) (.bl _)⟩
/-! ### statements with what they store known -/
theorem bb_val (i : Nat) (hN : X.N.Nodup) {n : Str} {pos' : Pos} (h : EvV X e σ Hb v) (B : Ext Hb H) (t : TabsOk X.K H) (q : ∀ H2, Ext Hb H2 → Ext H H2 → TabsOk X.K H2 → bB X sts D (σ.set i (some v)) H2) (hi : X.N[i]? = some n := by rfl)
    (hx : Loc X.env.scope n := by first | exact Or.inl rfl | exact Or.inr rfl) (hs : swapsWith e (some (.Name n pos')) pos.line X.env = pure false := by rfl) (hf : X.fn n = true ∨ X.env.scope.names.lookup n = some .local := by first | exact .inl rfl | exact .inr rfl) :
    bB X (.Assign [.Name n pos'] e pos :: sts) D σ H := bb_cons (bs_set (D := { D with nx := bB X sts D }) i hN h B t (fun u G H2 f e => by subst e; exact q H2 (f.g.trans f.g2) f.h f.tok) hi hx hs hf)
theorem bb_dat (i : Nat) (hN : X.N.Nodup) {n : Str} {pos' : Pos} (h : EvD X e σ Hb d) (B : Ext Hb H) (t : TabsOk X.K H) (q : ∀ v G H2, Fr X.K Hb H G H2 → Dp X.K G v d → bB X sts D (σ.set i (some v)) H2) (hi : X.N[i]? = some n := by rfl)
    (hx : Loc X.env.scope n := by first | exact Or.inl rfl | exact Or.inr rfl) (hs : swapsWith e (some (.Name n pos')) pos.line X.env = pure false := by rfl) (hf : X.fn n = true ∨ X.env.scope.names.lookup n = some .local := by first | exact .inl rfl | exact .inr rfl) :
    bB X (.Assign [.Name n pos'] e pos :: sts) D σ H := bb_cons (bs_set (D := { D with nx := bB X sts D }) i hN h B t (fun u G H2 f e => q u G H2 f e) hi hx hs hf)
theorem bb_ret (h : EvD X e σ Hb d) (B : Ext Hb H) (t : TabsOk X.K H) (q : ∀ v G H2, Fr X.K Hb H G H2 → Dp X.K G v d → D.rt v H2) : bB X (.Return (some e) pos :: sts) D σ H := bb_cons (bs_ret (D := { D with nx := bB X sts D }) h B t fun v G H2 f r => q v G H2 f r)
/-- if c: s1 (leaves, or goes on) -/
theorem bb_if (h : EvT X c σ Hb k) (B : Ext Hb H) (t : TabsOk X.K H) (q1 : k = true → ∀ H2, Ext Hb H2 → Ext H H2 → TabsOk X.K H2 → bB X s1 { D with nx := bB X sts D } σ H2) (q2 : k = false → ∀ H2, Ext Hb H2 → Ext H H2 → TabsOk X.K H2 → bB X s2 { D with nx := bB X sts D } σ H2) :
    bB X (.If c s1 s2 pos :: sts) D σ H := bb_cons (bs_if (D := { D with nx := bB X sts D }) h B t (fun e G H2 f => q1 e H2 (f.g.trans f.g2) f.h f.tok) (fun e G H2 f => q2 e H2 (f.g.trans f.g2) f.h f.tok))
theorem bb_if0 (h : EvT X c σ Hb k) (B : Ext Hb H) (t : TabsOk X.K H) (q1 : k = true → ∀ H2, Ext Hb H2 → Ext H H2 → TabsOk X.K H2 → bB X s1 { D with nx := bB X sts D } σ H2) (q2 : k = false → ∀ H2, Ext Hb H2 → Ext H H2 → TabsOk X.K H2 → bB X sts D σ H2) :
    bB X (.If c s1 [] pos :: sts) D σ H := bb_if h B t q1 fun e H2 a b c => bb_nil (q2 e H2 a b c)
/-- a tuple unpacked: its places -/
theorem bb_unp {es2 : List Expr} {kk} {pp : Pos} {g : TGs} {m : Nat} (h : EvD X e σ Hb (.tuple ds)) (B : Ext Hb H) (t : TabsOk X.K H) (hg : PGs X es2 g) (hm : ds.length = m)
    (q : ∀ xs G H2, Fr X.K Hb H G H2 → DpAll X.K G xs ds → g xs σ H2 (bB X sts D)) (hc : X.calm = true := by rfl)
    (hn : (assignEach es2 X.env).length = m := by rfl) (hst : (assignEach es2 X.env).findIdx? (·.1) = none := by rfl)
    (hs : swapsWithSole [.Tuple es2 kk pp] e pos.line X.env = pure false := by rfl) (hw : swappedStores [.Tuple es2 kk pp] e X.env = pure none := by rfl) (h1 : (assignEach [.Tuple es2 kk pp] X.env).map (·.2) = [assign (.Tuple es2 kk pp) X.env] := by rfl) :
    bB X (.Assign [.Tuple es2 kk pp] e pos :: sts) D σ H := bb_cons (PS.b (ps_asg pe_b (pg_tup hc hg hn hst) hs hw h1) (h H B t _ fun v G H2 f r => by
      cases r with
      | tup hs r => exact ⟨_, _, rfl, f.g2.t hs, by rw [all_len r]; exact hm, q _ G H2 f r⟩))
end

/-! ### all(lo <= sign <= hi for sign in text) -/
theorem elt_between {prog : Program} {w : World} {scope : Scope} {x : Str} {lo hi : String} {j1 j2 : Nat} {p1 p2 p3 p4 : Pos} (hk : scope.kind = .function) (hl : scope.names.lookup x = some .local) (hd : (x == ("__debug__" : Str)) = false := by decide) :
    GxR.EltP prog w scope x (.Compare (.Constant (.str lo) j1 p1) [.LtE, .LtE] [.Name x p2, .Constant (.str hi) j2 p3] p4) (fun c => !decide ([c] < (Str.ofString lo).cps.toList) && !decide ((Str.ofString hi).cps.toList < [c])) := by
  intro cenv A' E' c t s m hs hn hm
  refine PyProof.Rows.Compare_chain ?_
  refine Calls.Constant_str ?_
  refine PyProof.Rows.chain_link ?_
  refine PySem.wpAny_Name (PySem.wpAny_loadName_local (by rw [hs]; exact hk) (show cenv.scope.names.lookup x = some .local by rw [hs]; exact hl) hn hm ?_) hd
  refine PySem.P.le_str ?_
  refine PySem.wpAny_truthy_bool ?_
  by_cases h : ([c] : List Nat) < (Str.ofString lo).cps.toList
  · have e : decide ([c] < (Str.ofString lo).cps.toList) = true := decide_eq_true h
    simp only [e, Bool.not_true, Bool.false_and]
    exact ⟨trivial, GxR.keeps_tok _ _⟩
  · have e : decide ([c] < (Str.ofString lo).cps.toList) = false := decide_eq_false h
    simp only [e, Bool.not_false, Bool.true_and]
    refine PyProof.Rows.chain_last ?_
    refine Calls.Constant_str ?_
    exact PySem.P.le_str ⟨rfl, GxR.keeps_tok _ _⟩
end C
namespace C
open PySem L2
/-! ### an all(..) over a text's signs -/
section
variable {X : Cx} {σ : L2.St} {H : Hp} {iter elt : Expr} {c P : Addr} {x : Str} {px p pos gpos : Pos} {scope : Scope} {pb : Nat → Bool} {k : Nat} {z : Str}
theorem ev_allS (hr : Room k X.A) (hm : X.mg "all" = none) (TB : GxR.TabB X.base X.mg c P) (hcode : X.env.code = .ref c) (S : GxR.GenS X.env scope x) (hel : GxR.EltP X.prog X.w scope x elt pb) (hP : ∃ ps, H P = some (.tbl ps)) (hk : PySem.W.tabIn X.K "is_key" = some (c, P)) (hi : EvD X iter σ H (.str z)) (hg : Gl X "all" := by rfl)
    (hs : ∀ v, genFold iter X.env v = pure v := by intro _; rfl) (he : starEach [.GeneratorExp elt [⟨.Name x px, iter, [], 0⟩] scope gpos] X.env = (false, eval (.GeneratorExp elt [⟨.Name x px, iter, [], 0⟩] scope gpos) X.env) :: starEach [] X.env := by rfl) :
    EvD X (.Call (.Name "all" p) [.GeneratorExp elt [⟨.Name x px, iter, [], 0⟩] scope gpos] [] pos) σ H (.bool (z.cps.toList.all pb)) := fun H1 E t Q q =>
  PE.b (GxR.pe_allS hr hg hm (by decide +kernel) TB hcode S pe_b hel hs he) (hi H1 E t _ fun v G H2 f r => by
    obtain ⟨ps, hP⟩ := hP
    obtain ⟨qs, hQ⟩ := (f.g.trans f.g2).tb P ps hP
    have tg : GxR.TabG H2 P := ⟨qs, hQ, f.tok c P qs hk hQ⟩
    cases r
    exact ⟨z, rfl, tg, fun H3 tb => q _ G H3 ⟨f.g, f.g2.trans (Ext.tabbed tg tb), f.h.trans (Ext.tabbed tg tb), f.off, f.tok.tabbed tb⟩ (.bl _)⟩)
end
/-! ### kinds -/
def isInt : PyData → Bool
  | .int _ => true
  | _ => false
def isIB : PyData → Bool
  | .int _ => true
  | .bool _ => true
  | _ => false
def isB : PyData → Bool
  | .bool _ => true
  | _ => false
def isS : PyData → Bool
  | .str _ => true
  | _ => false
def isL : PyData → Bool
  | .list _ => true
  | _ => false
def isT : PyData → Bool
  | .tuple _ => true
  | _ => false
theorem kit_int (d : PyData) : kitB (tyName d) "int" = some (isIB d) := match d with
  | .none => (by decide +kernel : kitB "NoneType" "int" = some false)
  | .bool _ => (by decide +kernel : kitB "bool" "int" = some true)
  | .int _ => (by decide +kernel : kitB "int" "int" = some true)
  | .str _ => (by decide +kernel : kitB "str" "int" = some false)
  | .list _ => (by decide +kernel : kitB "list" "int" = some false)
  | .tuple _ => (by decide +kernel : kitB "tuple" "int" = some false)
  | .dict _ => (by decide +kernel : kitB "dict" "int" = some false)
theorem kit_bool (d : PyData) : kitB (tyName d) "bool" = some (isB d) := match d with
  | .none => (by decide +kernel : kitB "NoneType" "bool" = some false)
  | .bool _ => (by decide +kernel : kitB "bool" "bool" = some true)
  | .int _ => (by decide +kernel : kitB "int" "bool" = some false)
  | .str _ => (by decide +kernel : kitB "str" "bool" = some false)
  | .list _ => (by decide +kernel : kitB "list" "bool" = some false)
  | .tuple _ => (by decide +kernel : kitB "tuple" "bool" = some false)
  | .dict _ => (by decide +kernel : kitB "dict" "bool" = some false)
theorem kit_str (d : PyData) : kitB (tyName d) "str" = some (isS d) := match d with
  | .none => (by decide +kernel : kitB "NoneType" "str" = some false)
  | .bool _ => (by decide +kernel : kitB "bool" "str" = some false)
  | .int _ => (by decide +kernel : kitB "int" "str" = some false)
  | .str _ => (by decide +kernel : kitB "str" "str" = some true)
  | .list _ => (by decide +kernel : kitB "list" "str" = some false)
  | .tuple _ => (by decide +kernel : kitB "tuple" "str" = some false)
  | .dict _ => (by decide +kernel : kitB "dict" "str" = some false)
theorem kit_list (d : PyData) : kitB (tyName d) "list" = some (isL d) := match d with
  | .none => (by decide +kernel : kitB "NoneType" "list" = some false)
  | .bool _ => (by decide +kernel : kitB "bool" "list" = some false)
  | .int _ => (by decide +kernel : kitB "int" "list" = some false)
  | .str _ => (by decide +kernel : kitB "str" "list" = some false)
  | .list _ => (by decide +kernel : kitB "list" "list" = some true)
  | .tuple _ => (by decide +kernel : kitB "tuple" "list" = some false)
  | .dict _ => (by decide +kernel : kitB "dict" "list" = some false)
theorem kit_tuple (d : PyData) : kitB (tyName d) "tuple" = some (isT d) := match d with
  | .none => (by decide +kernel : kitB "NoneType" "tuple" = some false)
  | .bool _ => (by decide +kernel : kitB "bool" "tuple" = some false)
  | .int _ => (by decide +kernel : kitB "int" "tuple" = some false)
  | .str _ => (by decide +kernel : kitB "str" "tuple" = some false)
  | .list _ => (by decide +kernel : kitB "list" "tuple" = some false)
  | .tuple _ => (by decide +kernel : kitB "tuple" "tuple" = some true)
  | .dict _ => (by decide +kernel : kitB "dict" "tuple" = some false)
theorem isInt_eq (d : PyData) : (isIB d && !isB d) = isInt d := by cases d <;> rfl
/-! ### data of small depth and plain texts -/
def okS (z : Str) : Bool := decide (z.length ≤ 1000) && z.cps.toList.all (fun c => decide (c < 128))
def good : Nat → PyData → Bool
  | _, .none => true
  | _, .bool _ => true
  | _, .int _ => true
  | _, .str z => okS z
  | n + 1, .list ds => ds.all (good n)
  | n + 1, .tuple ds => ds.all (good n)
  | _, _ => false
theorem okS_strOk {z : Str} (h : okS z = true) : PyData.strOk z = true := by
  unfold okS at h
  rw [Bool.and_eq_true] at h
  unfold PyData.strOk
  rw [Array.all_eq_true_iff_forall_mem]
  intro c hc
  have := of_decide_eq_true (List.all_eq_true.mp h.2 c (by simpa using hc))
  exact decide_eq_true (by omega)
mutual
theorem good_lay : ∀ (n : Nat) (d : PyData), good n d = true → d.canLay0 = true ∧ d.depth ≤ n
  | n, .none, _ => ⟨by simp [PyData.canLay0], by simp [PyData.depth]⟩
  | n, .bool _, _ => ⟨by simp [PyData.canLay0], by simp [PyData.depth]⟩
  | n, .int _, _ => ⟨by simp [PyData.canLay0], by simp [PyData.depth]⟩
  | n, .str z, h => ⟨by simp only [PyData.canLay0]; exact okS_strOk (by unfold good at h; exact h), by simp [PyData.depth]⟩
  | 0, .list ds, h => by simp [good] at h
  | 0, .tuple ds, h => by simp [good] at h
  | n + 1, .list ds, h => by
    have q := good_lays n ds (by unfold good at h; exact h)
    exact ⟨by simp only [PyData.canLay0]; exact q.1, by simp only [PyData.depth]; omega⟩
  | n + 1, .tuple ds, h => by
    have q := good_lays n ds (by unfold good at h; exact h)
    exact ⟨by simp only [PyData.canLay0]; exact q.1, by simp only [PyData.depth]; omega⟩
  | n, .dict _, h => by cases n <;> simp [good] at h
theorem good_lays : ∀ (n : Nat) (ds : List PyData), ds.all (good n) = true → PyData.canLayAll0 ds = true ∧ PyData.depthAll ds ≤ n
  | n, [], _ => ⟨by simp [PyData.canLayAll0], by simp [PyData.depthAll]⟩
  | n, d :: ds, h => by
    rw [List.all_cons, Bool.and_eq_true] at h
    have a := good_lay n d h.1
    have b := good_lays n ds h.2
    refine ⟨?_, ?_⟩
    · simp only [PyData.canLayAll0]; rw [a.1, b.1]; rfl
    · simp only [PyData.depthAll]; omega
end
theorem good_shaped {n : Nat} {d : PyData} (h : good n d = true) (hn : n ≤ 64) : SeqAt.shaped d = true := by
  have q := good_lay n d h
  unfold SeqAt.shaped
  rw [q.1, Bool.true_and]
  exact decide_eq_true (by omega)
theorem good_mono : ∀ (n : Nat) (d : PyData), good n d = true → good (n + 1) d = true
  | n, .none, _ => by simp [good]
  | n, .bool _, _ => by simp [good]
  | n, .int _, _ => by simp [good]
  | n, .str z, h => by unfold good at h ⊢; exact h
  | 0, .list ds, h => by simp [good] at h
  | 0, .tuple ds, h => by simp [good] at h
  | n + 1, .list ds, h => by
    unfold good at h ⊢
    exact List.all_eq_true.mpr fun x hx => good_mono n x (List.all_eq_true.mp h x hx)
  | n + 1, .tuple ds, h => by
    unfold good at h ⊢
    exact List.all_eq_true.mpr fun x hx => good_mono n x (List.all_eq_true.mp h x hx)
  | n, .dict _, h => by cases n <;> simp [good] at h
theorem good_le {n m : Nat} {d : PyData} (h : good n d = true) (hm : n ≤ m) : good m d = true := by
  obtain ⟨k, rfl⟩ := Nat.le.dest hm
  clear hm
  induction k with
  | zero => exact h
  | succ k ih => exact good_mono _ _ ih
theorem atI_in {α : Type} {xs : List α} {i : Int} (h0 : 0 ≤ i) (h : i < xs.length) : ∃ c, atI xs i = some c ∧ c ∈ xs := by
  obtain ⟨n, rfl⟩ := Int.eq_ofNat_of_zero_le h0
  have hk : n < xs.length := by omega
  exact ⟨xs[n], atI_nat (List.getElem?_eq_getElem hk), List.getElem_mem hk⟩
end C
namespace C
open PySem L2
section
variable {X : Cx} {σ : L2.St} {H : Hp} {a b c : Expr} {es : List Expr} {i j : Int} {d : PyData} {ds : List PyData} {x y : Str} {v : V} {pos p : Pos} {k l : Bool}
theorem ev_name (n : Nat) {x : Str} {v : V} (r : Dp X.K H v d) (hi : σ[n]? = some (some v)) (hN : X.N[n]? = some x := by rfl) (hv : Vis X.env.scope x := by first | exact Or.inl rfl | exact Or.inr (Or.inl rfl) | exact Or.inr (Or.inr rfl)) (hd : (x == ("__debug__" : Str)) = false := by decide)
    (hcd : (x == ("__classdict__" : Str)) = false := by decide) : EvD X (.Name x pos) σ H d := (ev_var n hi hN hv hd hcd).dat r
theorem ev_add (ha : EvD X a σ H (.int i)) (hb : EvD X b σ H (.int j)) : EvD X (.BinOp a .Add b pos) σ H (.int (i + j)) := ev_bin ha hb opd_add
theorem ev_sub (ha : EvD X a σ H (.int i)) (hb : EvD X b σ H (.int j)) : EvD X (.BinOp a .Sub b pos) σ H (.int (i - j)) := ev_bin ha hb opd_sub
theorem ev_mod (ha : EvD X a σ H (.int i)) (hb : EvD X b σ H (.int j)) (h : 0 < j) : EvD X (.BinOp a .Mod b pos) σ H (.int (i % j)) := ev_bin ha hb (opd_mod h)
theorem ev_div (ha : EvD X a σ H (.int i)) (hb : EvD X b σ H (.int j)) (h : 0 < j ∧ j < 1073741824) : EvD X (.BinOp a .FloorDiv b pos) σ H (.int (i / j)) := ev_bin ha hb (opd_div h.1 h.2)
theorem ev_mulR (ha : EvD X a σ H (.int i)) (hb : EvD X b σ H (.int j)) (h : j.natAbs < 2 ^ 64) : EvD X (.BinOp a .Mult b pos) σ H (.int (i * j)) := ev_bin ha hb (opd_mulR h)
theorem ev_mulL (ha : EvD X a σ H (.int i)) (hb : EvD X b σ H (.int j)) (h : i.natAbs < 2 ^ 64) : EvD X (.BinOp a .Mult b pos) σ H (.int (i * j)) := ev_bin ha hb (opd_mulL h)
theorem ev_pow {n : Nat} (ha : EvD X a σ H (.int i)) (hb : EvD X b σ H (.int n)) (h : i.natAbs < 2 ^ 64) (hn : n ≤ 1000000) : EvD X (.BinOp a .Pow b pos) σ H (.int (i ^ n)) := ev_bin ha hb (opd_pow h hn)
theorem ev_catS (ha : EvD X a σ H (.str x)) (hb : EvD X b σ H (.str y)) (h : x.length + y.length ≤ 100000) : EvD X (.BinOp a .Add b pos) σ H (.str (x ++ y)) := ev_bin ha hb (opd_catS (line_of h))
theorem et_lt (ha : EvD X a σ H (.int i)) (hb : EvD X b σ H (.int j)) (hm : behindInMarks .Lt b = false := by rfl) : EvT X (.Compare a [.Lt] [b] pos) σ H (decide (i < j)) := et_cmp ha hb opd_lt hm
theorem et_le (ha : EvD X a σ H (.int i)) (hb : EvD X b σ H (.int j)) (hm : behindInMarks .LtE b = false := by rfl) : EvT X (.Compare a [.LtE] [b] pos) σ H (decide (i ≤ j)) := et_cmp ha hb opd_le hm
theorem et_gt (ha : EvD X a σ H (.int i)) (hb : EvD X b σ H (.int j)) (hm : behindInMarks .Gt b = false := by rfl) : EvT X (.Compare a [.Gt] [b] pos) σ H (decide (j < i)) := et_cmp ha hb opd_gt hm
theorem et_ge (ha : EvD X a σ H (.int i)) (hb : EvD X b σ H (.int j)) (hm : behindInMarks .GtE b = false := by rfl) : EvT X (.Compare a [.GtE] [b] pos) σ H (decide (j ≤ i)) := et_cmp ha hb opd_ge hm
theorem et_eqI (ha : EvD X a σ H (.int i)) (hb : EvD X b σ H (.int j)) (hm : behindInMarks .Eq b = false := by rfl) : EvT X (.Compare a [.Eq] [b] pos) σ H (decide (i = j)) := et_cmp ha hb opd_eqI hm
theorem et_neI (ha : EvD X a σ H (.int i)) (hb : EvD X b σ H (.int j)) (hm : behindInMarks .NotEq b = false := by rfl) : EvT X (.Compare a [.NotEq] [b] pos) σ H (!decide (i = j)) := et_cmp ha hb opd_neI hm
theorem et_eqS (ha : EvD X a σ H (.str x)) (hb : EvD X b σ H (.str y)) (hm : behindInMarks .Eq b = false := by rfl) : EvT X (.Compare a [.Eq] [b] pos) σ H (decide (x = y)) := et_cmp ha hb opd_eqS hm
theorem et_neS (ha : EvD X a σ H (.str x)) (hb : EvD X b σ H (.str y)) (hm : behindInMarks .NotEq b = false := by rfl) : EvT X (.Compare a [.NotEq] [b] pos) σ H (!decide (x = y)) := et_cmp ha hb opd_neS hm
theorem et_eqB (ha : EvD X a σ H (.bool k)) (hb : EvD X b σ H (.bool l)) (hm : behindInMarks .Eq b = false := by rfl) : EvT X (.Compare a [.Eq] [b] pos) σ H (k == l) := et_cmp ha hb opd_eqB hm
theorem et_isN (ha : EvD X a σ H d) (hb : EvD X b σ H .none) (hm : behindInMarks .Is b = false := by rfl) : EvT X (.Compare a [.Is] [b] pos) σ H (isNone d) := et_cmp ha hb opd_isN hm
theorem et_notN (ha : EvD X a σ H d) (hb : EvD X b σ H .none) (hm : behindInMarks .IsNot b = false := by rfl) : EvT X (.Compare a [.IsNot] [b] pos) σ H (!isNone d) := et_cmp ha hb opd_notN hm
theorem ev_eqI (ha : EvD X a σ H (.int i)) (hb : EvD X b σ H (.int j)) (hm : behindInMarks .Eq b = false := by rfl) : EvD X (.Compare a [.Eq] [b] pos) σ H (.bool (decide (i = j))) := ev_cmp ha hb opd_eqI hm
theorem ev_neI (ha : EvD X a σ H (.int i)) (hb : EvD X b σ H (.int j)) (hm : behindInMarks .NotEq b = false := by rfl) : EvD X (.Compare a [.NotEq] [b] pos) σ H (.bool (!decide (i = j))) := ev_cmp ha hb opd_neI hm
theorem ev_eqS (ha : EvD X a σ H (.str x)) (hb : EvD X b σ H (.str y)) (hm : behindInMarks .Eq b = false := by rfl) : EvD X (.Compare a [.Eq] [b] pos) σ H (.bool (decide (x = y))) := ev_cmp ha hb opd_eqS hm
theorem ev_neS (ha : EvD X a σ H (.str x)) (hb : EvD X b σ H (.str y)) (hm : behindInMarks .NotEq b = false := by rfl) : EvD X (.Compare a [.NotEq] [b] pos) σ H (.bool (!decide (x = y))) := ev_cmp ha hb opd_neS hm
theorem ev_eqB (ha : EvD X a σ H (.bool k)) (hb : EvD X b σ H (.bool l)) (hm : behindInMarks .Eq b = false := by rfl) : EvD X (.Compare a [.Eq] [b] pos) σ H (.bool (k == l)) := ev_cmp ha hb opd_eqB hm
theorem ev_isN (ha : EvD X a σ H d) (hb : EvD X b σ H .none) (hm : behindInMarks .Is b = false := by rfl) : EvD X (.Compare a [.Is] [b] pos) σ H (.bool (isNone d)) := ev_cmp ha hb opd_isN hm
theorem ev_lt (ha : EvD X a σ H (.int i)) (hb : EvD X b σ H (.int j)) (hm : behindInMarks .Lt b = false := by rfl) : EvD X (.Compare a [.Lt] [b] pos) σ H (.bool (decide (i < j))) := ev_cmp ha hb opd_lt hm
theorem ev_lenL (ha : EvD X a σ H (.list ds)) (hm : X.mg "len" = none) (hg : Gl X "len" := by rfl) (he : starEach [a] X.env = (false, eval a X.env) :: starEach [] X.env := by rfl) : EvD X (.Call (.Name "len" p) [a] [] pos) σ H (.int (ds.length : Int)) := ev_callB (ea_cons ha ea_nil he) cd_lenL hg hm (by decide +kernel) (by decide) (by decide) he
theorem ev_lenT (ha : EvD X a σ H (.tuple ds)) (hm : X.mg "len" = none) (hg : Gl X "len" := by rfl) (he : starEach [a] X.env = (false, eval a X.env) :: starEach [] X.env := by rfl) : EvD X (.Call (.Name "len" p) [a] [] pos) σ H (.int (ds.length : Int)) := ev_callB (ea_cons ha ea_nil he) cd_lenT hg hm (by decide +kernel) (by decide) (by decide) he
theorem ev_lenS (ha : EvD X a σ H (.str x)) (hm : X.mg "len" = none) (hx : x.length ≤ sizeLine) (hg : Gl X "len" := by rfl) (he : starEach [a] X.env = (false, eval a X.env) :: starEach [] X.env := by rfl) : EvD X (.Call (.Name "len" p) [a] [] pos) σ H (.int (x.length : Int)) := ev_callB (ea_cons ha ea_nil he) (cd_lenS hx) hg hm (by decide +kernel) (by decide) (by decide) he
theorem ev_ixL {n : Int} (ha : EvD X a σ H (.list ds)) (hb : EvD X b σ H (.int n)) (h : atI ds n = some d) (hs : PlainIx b := by exact fun _ _ => rfl) : EvD X (.Subscript a b pos) σ H d := ev_ix ha hb (ix_l h) hs
theorem ev_ixT {n : Int} (ha : EvD X a σ H (.tuple ds)) (hb : EvD X b σ H (.int n)) (h : atI ds n = some d) (hs : PlainIx b := by exact fun _ _ => rfl) : EvD X (.Subscript a b pos) σ H d := ev_ix ha hb (ix_t h) hs
theorem ev_ixS {n : Int} {m : Nat} (ha : EvD X a σ H (.str x)) (hb : EvD X b σ H (.int n)) (hl : x.length ≤ 100000) (h : atI x.cps.toList n = some m) (hs : PlainIx b := by exact fun _ _ => rfl) : EvD X (.Subscript a b pos) σ H (.str ⟨#[m]⟩) := ev_ix ha hb (ix_s (line_of hl) h) hs
end
end C
namespace C
open PySem L2
section
variable {X : Cx} {σ : L2.St} {H : Hp} {a b c e : Expr} {es : List Expr} {i j : Int} {d : PyData} {ds : List PyData} {x y : Str} {v : V} {pos p : Pos} {k l : Bool}
/-- a name of the module that holds a written tuple, an int -/
theorem ev_globT {ad : Addr} {xs : List V} (hm : X.mg x = some (.ref ad)) (ht : ∀ H, SqT X.K H ad xs) (r : ∀ H, DpAll X.K H xs ds) (hg : Gl X x := by rfl) (hd : (x == ("__debug__" : Str)) = false := by decide) : EvD X (.Name x pos) σ H (.tuple ds) := fun H1 E t Q q =>
  PE.b (pe_glob hg hm (v := .ref ad) rfl hd) (q _ H H1 (Fr.refl E t) (.tup (ht H) (r H)))
theorem ev_globI {n : Int} {tk : Tok} (hm : X.mg x = some (.int n tk)) (hg : Gl X x := by rfl) (hd : (x == ("__debug__" : Str)) = false := by decide) : EvD X (.Name x pos) σ H (.int n) := fun H1 E t Q q =>
  PE.b (pe_glob hg hm (v := .int n) ⟨_, rfl⟩ hd) (q _ H H1 (Fr.refl E t) (.int n))
/-- the test of a comparison's value -/
theorem et_inT (hu : X.A.units + 65 < cLine) (ha : EvD X a σ H d) (hb : EvD X b σ H (.tuple ds)) (sd : SeqAt.shaped d = true) (se : SeqAt.shaped (.tuple ds) = true) (hm : behindInMarks .In b = false := by rfl) : EvT X (.Compare a [.In] [b] pos) σ H (ds.any fun z => PyData.eqv z d) := et_cmp ha hb (opd_inT hu sd se) hm
theorem et_notInT (hu : X.A.units + 65 < cLine) (ha : EvD X a σ H d) (hb : EvD X b σ H (.tuple ds)) (sd : SeqAt.shaped d = true) (se : SeqAt.shaped (.tuple ds) = true) (hm : behindInMarks .NotIn b = false := by rfl) : EvT X (.Compare a [.NotIn] [b] pos) σ H (!ds.any fun z => PyData.eqv z d) := et_cmp ha hb (opd_notInT hu sd se) hm
/-- a demonic promise: some data that R allows -/
def SpE (K : PySem.W.Frag) (T : Hp → Prop) (R : List PyData → PyData → Prop) : Sp := fun vs H Q _ => ∃ G ds, Ext G H ∧ TabsOk K H ∧ DpAll K G vs ds ∧ T G ∧ (∃ d, R ds d) ∧ ∀ d v G' H2, R ds d → Fr K G H G' H2 → Dp K G' v d → Q v H2
theorem ev_callE {CX : CXT} {k : Nat} {f : Addr} {fd : FuncData} {ps : List Str} {T : Hp → Prop} {R : List PyData → PyData → Prop} {E : XK} {nm : Str} (F : FnOk X.prog X.w X.K X.mg X.base CX k f fd ps (SpE X.K T R)) (hr : Room k X.A) (hg : Gl X nm) (hm : X.mg nm = some (.ref f)) (hk : PySem.W.keepIn X.K (.ref f) = true) (hb : Binds X.K fd ps [])
    (hx : Passes CX X E) (ha : EvAD X (e :: es) σ H ds) (hR : ∃ d, R ds d) (hT : ∀ H1, Ext H H1 → T H1) (hdb : (nm == ("__debug__" : Str)) = false := by decide) (he : starEach (e :: es) X.env = (false, eval e X.env) :: starEach es X.env := by rfl) (hpl : (backTo pos (starEach es X.env)).any (·.1) = false := by rfl) :
    Ev X (.Call (.Name nm p) (e :: es) [] pos) σ H (fun v G => ∃ d, R ds d ∧ Dp X.K G v d) := fun H1 E1 t Q q =>
  PE.b (pe_call F hr hg hm hk hb .nil hx pa_b hdb he hpl) (ha H1 E1 t _ fun vs G H2 f r => by
    refine ⟨G, ds, f.g2, f.tok, ?_, hT _ f.g, hR, fun d v G2 H3 hd f2 s => q v G2 H3 (f.trans f2) ⟨d, hd, s⟩⟩
    rw [List.append_nil]
    exact r)
end
section
variable {X : Cx} {σ : L2.St} {H Hb : Hp} {e : Expr} {sts : List Stmt} {v : V} {pos : Pos} {D : Ends}
theorem bb_ev (i : Nat) (hN : X.N.Nodup) {n : Str} {pos' : Pos} {P : VP} (h : Ev X e σ Hb P) (B : Ext Hb H) (t : TabsOk X.K H) (q : ∀ v G H2, Fr X.K Hb H G H2 → P v G → bB X sts D (σ.set i (some v)) H2) (hi : X.N[i]? = some n := by rfl)
    (hx : Loc X.env.scope n := by first | exact Or.inl rfl | exact Or.inr rfl) (hs : swapsWith e (some (.Name n pos')) pos.line X.env = pure false := by rfl) (hf : X.fn n = true ∨ X.env.scope.names.lookup n = some .local := by first | exact .inl rfl | exact .inr rfl) :
    bB X (.Assign [.Name n pos'] e pos :: sts) D σ H := bb_cons (bs_set (D := { D with nx := bB X sts D }) i hN h B t (fun u G H2 f e => q u G H2 f e) hi hx hs hf)
theorem bb_retP {P : VP} (h : Ev X e σ Hb P) (B : Ext Hb H) (t : TabsOk X.K H) (q : ∀ v G H2, Fr X.K Hb H G H2 → P v G → D.rt v H2) : bB X (.Return (some e) pos :: sts) D σ H := bb_cons (bs_ret (D := { D with nx := bB X sts D }) h B t fun v G H2 f r => q v G H2 f r)
end
/-! a for over the loop's own list of ints that are written -/
section
variable {X : Cx} {σ : L2.St} {H H' Hb : Hp} {iter : Expr} {body : List Stmt} {pos p0 p1 p2 : Pos} {D : Ends} {sts : List Stmt} {m : Expr} {n : Str} {N : Int} {i : Nat}
theorem bb_forR (i : Nat) (hN : X.N.Nodup) (Pv : Nat → L2.St → Hp → Prop) (h : EvD X m σ Hb (.int N)) (B : Ext Hb H) (t : TabsOk X.K H) (hsz : -1000000 ≤ N ∧ N ≤ 1000000)
    (h0 : ∀ H2, Ext Hb H2 → Ext H H2 → TabsOk X.K H2 → Pv 0 σ H2)
    (hs : ∀ (j : Nat) σ' H', (j : Int) < N → Pv j σ' H' → bB X body { nx := Pv (j + 1), rt := D.rt, ct := Pv (j + 1), bk := bB X sts D } (σ'.set i (some (.int (j : Int)))) H') (hd : ∀ σ' H', Pv N.toNat σ' H' → bB X sts D σ' H')
    (hp : PassesOwn (model X.prog X.w) X.A X.env X.xe) (hm : X.mg "range" = none) (hg : Gl X "range" := by rfl) (hc : X.calm = true := by rfl) (hi : X.N[i]? = some n := by rfl)
    (hn : Loc X.env.scope n := by first | exact Or.inl rfl | exact Or.inr rfl) (hf : X.fn n = true ∨ X.env.scope.names.lookup n = some .local := by first | exact .inl rfl | exact .inr rfl) (hst : starEach [m] X.env = [(false, eval m X.env)] := by rfl) : bB X (.For (.Name n p0) (.Call (.Name "range" p1) [m] [] p2) body [] pos :: sts) D σ H :=
  bb_cons (bs_forR (D := { D with nx := bB X sts D }) Pv h B t (by omega) (by omega) (fun G H2 f => h0 H2 (f.g.trans f.g2) f.h f.tok) hs hd hp hm hN hg hc hi hn hf hst)
theorem bb_forL (i : Nat) (hN : X.N.Nodup) {ad : Addr} {xs : List V} (Pv : Nat → L2.St → Hp → Prop) (h : EvV X iter σ Hb (.ref ad)) (B : Ext Hb H) (t : TabsOk X.K H) (hx : SqL X.K Hb ad xs)
    (h0 : ∀ H2, Ext Hb H2 → Ext H H2 → TabsOk X.K H2 → Pv 0 σ H2) (hl : ∀ j σ' H', j ≤ xs.length → Pv j σ' H' → SqL X.K H' ad xs)
    (hs : ∀ j x σ' H', xs[j]? = some x → Pv j σ' H' → bB X body { nx := Pv (j + 1), rt := D.rt, ct := Pv (j + 1), bk := bB X sts D } (σ'.set i (some x)) H') (hd : ∀ σ' H', Pv xs.length σ' H' → bB X sts D σ' H')
    (hp : PassesOwn (model X.prog X.w) X.A X.env X.xe) (hc : X.calm = true := by rfl) (hi : X.N[i]? = some n := by rfl)
    (hn : Loc X.env.scope n := by first | exact Or.inl rfl | exact Or.inr rfl) (hf : X.fn n = true ∨ X.env.scope.names.lookup n = some .local := by first | exact .inl rfl | exact .inr rfl) (hfs : ∀ x, foldedSetIterable iter X.env x = pure x := by intro _; rfl) : bB X (.For (.Name n p0) iter body [] pos :: sts) D σ H :=
  bb_cons (bs_forL (D := { D with nx := bB X sts D }) Pv h B t (fun G E => E.l hx) (fun G H2 f => h0 H2 (f.g.trans f.g2) f.h f.tok) hl hs hd hp hN hc hi hn hf hfs)
/-- .. over a tuple -/
theorem bb_forT (i : Nat) (hN : X.N.Nodup) {ds : List PyData} (h : EvD X iter σ Hb (.tuple ds)) (B : Ext Hb H) (t : TabsOk X.K H)
    (q : ∀ ad xs G H2, Fr X.K Hb H G H2 → SqT X.K G ad xs → DpAll X.K G xs ds → ∃ Pv : Nat → L2.St → Hp → Prop, Pv 0 σ H2 ∧ (∀ j σ' H', j ≤ xs.length → Pv j σ' H' → SqT X.K H' ad xs) ∧
      (∀ j x σ' H', xs[j]? = some x → Pv j σ' H' → bB X body { nx := Pv (j + 1), rt := D.rt, ct := Pv (j + 1), bk := bB X sts D } (σ'.set i (some x)) H') ∧ (∀ σ' H', Pv xs.length σ' H' → bB X sts D σ' H'))
    (hp : PassesOwn (model X.prog X.w) X.A X.env X.xe) (hc : X.calm = true := by rfl) (hi : X.N[i]? = some n := by rfl)
    (hn : Loc X.env.scope n := by first | exact Or.inl rfl | exact Or.inr rfl) (hf : X.fn n = true ∨ X.env.scope.names.lookup n = some .local := by first | exact .inl rfl | exact .inr rfl) (hfs : ∀ x, foldedSetIterable iter X.env x = pure x := by intro _; rfl) : bB X (.For (.Name n p0) iter body [] pos :: sts) D σ H :=
  bb_cons (PS.b (ps_for hp hc (pi_tup pe_b) (pg_name hN hi hn hf) pss_b hfs) (h H B t _ fun v G H2 f r => by
    cases r with
    | tup hs r =>
      obtain ⟨Pv, a, b, c, d⟩ := q _ _ G H2 f hs r
      exact ⟨_, rfl, ⟨_, f.g2.t hs⟩, L2.for_tup Pv a b c d⟩))
/-- over a new list -/
theorem bb_forK (i : Nat) (hN : X.N.Nodup) {P : VP} (h : Ev X iter σ Hb P) (B : Ext Hb H) (t : TabsOk X.K H)
    (q : ∀ v G H2, Fr X.K Hb H G H2 → P v G → ∃ ad xs, v = .ref ad ∧ SqL X.K H2 ad xs ∧ ∃ Pv : Nat → L2.St → Hp → Prop, Pv 0 σ H2 ∧ (∀ j σ' H', j ≤ xs.length → Pv j σ' H' → SqL X.K H' ad xs) ∧
      (∀ j x σ' H', xs[j]? = some x → Pv j σ' H' → bB X body { nx := Pv (j + 1), rt := D.rt, ct := Pv (j + 1), bk := bB X sts D } (σ'.set i (some x)) H') ∧ (∀ σ' H', Pv xs.length σ' H' → bB X sts D σ' H'))
    (hp : PassesOwn (model X.prog X.w) X.A X.env X.xe) (hc : X.calm = true := by rfl) (hi : X.N[i]? = some n := by rfl)
    (hn : Loc X.env.scope n := by first | exact Or.inl rfl | exact Or.inr rfl) (hf : X.fn n = true ∨ X.env.scope.names.lookup n = some .local := by first | exact .inl rfl | exact .inr rfl) (hfs : ∀ x, foldedSetIterable iter X.env x = pure x := by intro _; rfl) : bB X (.For (.Name n p0) iter body [] pos :: sts) D σ H :=
  bb_cons (PS.b (ps_for hp hc (pi_list pe_b) (pg_name hN hi hn hf) pss_b hfs) (h H B t _ fun v G H2 f r => by
    obtain ⟨ad, xs, e, hs, Pv, a, b, c, d⟩ := q v G H2 f r
    exact ⟨ad, e, ⟨xs, hs⟩, L2.for_list Pv a b c d⟩))
/-- over a text -/
theorem bb_forS (i : Nat) (hN : X.N.Nodup) {z : Str} (Pv : Nat → L2.St → Hp → Prop) (h : EvD X iter σ Hb (.str z)) (B : Ext Hb H) (t : TabsOk X.K H)
    (h0 : ∀ H2, Ext Hb H2 → Ext H H2 → TabsOk X.K H2 → Pv 0 σ H2)
    (hs : ∀ j c σ' H', z.cps.toList[j]? = some c → Pv j σ' H' → bB X body { nx := Pv (j + 1), rt := D.rt, ct := Pv (j + 1), bk := bB X sts D } (σ'.set i (some (.str ⟨#[c]⟩))) H') (hd : ∀ σ' H', Pv z.cps.toList.length σ' H' → bB X sts D σ' H')
    (hp : PassesOwn (model X.prog X.w) X.A X.env X.xe) (hc : X.calm = true := by rfl) (hi : X.N[i]? = some n := by rfl)
    (hn : Loc X.env.scope n := by first | exact Or.inl rfl | exact Or.inr rfl) (hf : X.fn n = true ∨ X.env.scope.names.lookup n = some .local := by first | exact .inl rfl | exact .inr rfl) (hfs : ∀ x, foldedSetIterable iter X.env x = pure x := by intro _; rfl) : bB X (.For (.Name n p0) iter body [] pos :: sts) D σ H :=
  bb_cons (PS.b (ps_for hp hc (pi_str pe_b) (pg_name hN hi hn hf) pss_b hfs) (h H B t _ fun v G H2 f r => by
    cases r
    refine ⟨z, rfl, fun i m σ H => m = z.cps.toList.length - i ∧ i ≤ z.cps.toList.length ∧ Pv i σ H, ⟨_, rfl, Nat.zero_le _, h0 H2 (f.g.trans f.g2) f.h f.tok⟩, ?_⟩
    rintro i m σ H ⟨rfl, hi, p⟩
    have es : z.cps.size = z.cps.toList.length := by simp
    by_cases hlt : i < z.cps.toList.length
    · refine .inr ⟨by show i < z.cps.size; omega, Pv (i + 1), fun σ' H' p' => ⟨_, by omega, rfl, hlt, p'⟩, fun x H' y => ?_⟩
      obtain ⟨e, c, hc, rfl⟩ := y
      subst e
      exact hs i c σ _ (by simpa using hc) p
    · have e : i = z.cps.toList.length := by omega
      subst e
      exact .inl ⟨by show z.cps.size ≤ _; omega, hd σ H p⟩))
end
end C

namespace C
open PySem L2
section
variable {X : Cx} {σ : L2.St} {H H' Hb : Hp} {a b c e lo hi : Expr} {es : List Expr} {sts s1 s2 : List Stmt} {i j : Int} {d : PyData} {ds ds1 ds2 : List PyData} {x y : Str} {v : V} {pos p p2 p3 : Pos} {k l : Bool} {D : Ends}
/-! ### weakening what is wanted behind -/
theorem SP.imp {pins : List (Addr × Obj)} {D' : Ends} {f : Flow} {s : Shared} (hn : ∀ σ H, D.nx σ H → D'.nx σ H) (hr : ∀ v H, D.rt v H → D'.rt v H) (hb : ∀ σ H, D.bk σ H → D'.bk σ H) (hc : ∀ σ H, D.ct σ H → D'.ct σ H) (h : SP X pins D f s) : SP X pins D' f s := by
  cases f with
  | next => obtain ⟨a, b, c, d⟩ := h; exact ⟨a, b, c, hn _ _ d⟩
  | brk => obtain ⟨a, b, c, d⟩ := h; exact ⟨a, b, c, hb _ _ d⟩
  | cont => obtain ⟨a, b, c, d⟩ := h; exact ⟨a, b, c, hc _ _ d⟩
  | ret u => obtain ⟨v, a, b, c, r, d⟩ := h; exact ⟨v, a, b, c, r, hr _ _ d⟩
theorem bB_nx {M M' : L2.St → Hp → Prop} (h : bB X sts { D with nx := M } σ H) (q : ∀ σ H, M σ H → M' σ H) : bB X sts { D with nx := M' } σ H := fun pins s I => thn (h pins s I) fun f s' r => SP.imp (D := { D with nx := M }) q (fun _ _ z => z) (fun _ _ z => z) (fun _ _ z => z) r
theorem bB_rt {D' : Ends} (h : bB X sts D σ H) (hn : ∀ σ H, D.nx σ H → D'.nx σ H) (hr : ∀ v H, D.rt v H → D'.rt v H) (hb : ∀ σ H, D.bk σ H → D'.bk σ H) (hc : ∀ σ H, D.ct σ H → D'.ct σ H) : bB X sts D' σ H := fun pins s I => thn (h pins s I) fun f s' r => SP.imp hn hr hb hc r
/-- both ways of an if meet at M -/
theorem bb_ifM (M : L2.St → Hp → Prop) (h : EvT X c σ Hb k) (B : Ext Hb H) (t : TabsOk X.K H) (q1 : k = true → ∀ H2, Ext Hb H2 → Ext H H2 → TabsOk X.K H2 → bB X s1 { D with nx := M } σ H2) (q2 : k = false → ∀ H2, Ext Hb H2 → Ext H H2 → TabsOk X.K H2 → bB X s2 { D with nx := M } σ H2)
    (q : ∀ σ' H', M σ' H' → bB X sts D σ' H') : bB X (.If c s1 s2 pos :: sts) D σ H := bb_if h B t (fun e H2 a b c => bB_nx (q1 e H2 a b c) q) (fun e H2 a b c => bB_nx (q2 e H2 a b c) q)
theorem ev_neg (ha : EvD X a σ H (.int i)) : EvD X (.UnaryOp .USub a pos) σ H (.int (-i)) := fun H1 E t Q q =>
  PE.b (pe_un un_neg pe_b) (ha H1 E t _ fun v G H2 f r => by
    cases r
    exact ⟨i, rfl, q _ G H2 f (.int _)⟩)
/-! ### lists that are tracked -/
def EvK (X : Cx) (e : Expr) (σ : L2.St) (H : Hp) (ds : List PyData) : Prop := Ev X e σ H fun v G => ∃ a xs, v = .ref a ∧ G a = some (.lst xs) ∧ DpAll X.K G xs ds
theorem EvK.dat (h : EvK X e σ H ds) : EvD X e σ H (.list ds) := Ev.imp h fun v G _ ⟨a, xs, e, h1, h2⟩ => by subst e; exact .lst (.inl (.inl h1)) h2
theorem EvK.mono (E : Ext H H') (h : EvK X e σ H ds) : EvK X e σ H' ds := Ev.mono E (fun _ _ _ a ⟨b, xs, e, h1, h2⟩ => ⟨b, xs, e, a.keep _ _ h1 rfl, a.dps h2⟩) h
theorem ek_lst (h : EvAD X es σ H ds) (hl : ds.length ≤ 100000) : EvK X (.List es pos) σ H ds := fun H1 E t Q q =>
  PE.b (pe_lst pa_b) (h H1 E t _ fun vs G H2 f r => ⟨line_of (by rw [all_len r]; exact hl), fun p hp => q _ _ _ (f.new hp rfl) ⟨p, vs, rfl, upd_same, (Ext.new (f.g2.fresh hp)).dps r⟩⟩)
theorem ek_var (n : Nat) {x : Str} {ad : Addr} {xs : List V} (hk : H ad = some (.lst xs)) (r : DpAll X.K H xs ds) (hi : σ[n]? = some (some (.ref ad))) (hN : X.N[n]? = some x := by rfl) (hv : Vis X.env.scope x := by first | exact Or.inl rfl | exact Or.inr (Or.inl rfl) | exact Or.inr (Or.inr rfl)) (hd : (x == ("__debug__" : Str)) = false := by decide)
    (hcd : (x == ("__classdict__" : Str)) = false := by decide) : EvK X (.Name x pos) σ H ds := Ev.imp (ev_var n hi hN hv hd hcd) fun u G E e => ⟨ad, xs, e, E.keep _ _ hk rfl, E.dps r⟩
theorem all_app {K : PySem.W.Frag} {H : Hp} : ∀ {us vs : List V} {ds es : List PyData}, DpAll K H us ds → DpAll K H vs es → DpAll K H (us ++ vs) (ds ++ es)
  | _, _, _, _, .nil, h => h
  | _, _, _, _, .cons a b, h => .cons a (all_app b h)
theorem all_take {K : PySem.W.Frag} {H : Hp} : ∀ (n : Nat) {us : List V} {ds : List PyData}, DpAll K H us ds → DpAll K H (us.take n) (ds.take n)
  | 0, _, _, _ => .nil
  | _ + 1, _, _, .nil => .nil
  | n + 1, _, _, .cons a b => .cons a (all_take n b)
theorem all_drop {K : PySem.W.Frag} {H : Hp} : ∀ (n : Nat) {us : List V} {ds : List PyData}, DpAll K H us ds → DpAll K H (us.drop n) (ds.drop n)
  | 0, _, _, h => h
  | _ + 1, _, _, .nil => .nil
  | n + 1, _, _, .cons _ b => all_drop n b
theorem ek_cat (ha : EvK X a σ H ds1) (hb : EvK X b σ H ds2) (hl : ds1.length + ds2.length ≤ 100000) : EvK X (.BinOp a .Add b pos) σ H (ds1 ++ ds2) := fun H1 E t Q q =>
  PE.b (pe_op or_b pe_b pe_b) (ha H1 E t _ fun x G H2 f ⟨p1, xs, e1, h1, r1⟩ => hb.mono f.g H2 f.g2 f.tok _ fun y G2 H3 f2 ⟨p2, ys, e2, h2, r2⟩ => by
    subst e1 e2
    refine OpR.b op_cat ⟨p1, p2, xs, ys, rfl, rfl, f2.g2.keep _ _ (f2.g.keep _ _ h1 rfl) rfl, f2.g2.keep _ _ h2 rfl, line_of (by rw [all_len r1, all_len r2]; exact hl), fun p hp => ?_⟩
    exact q _ _ _ ((f.trans f2).new hp rfl) ⟨p, _, rfl, upd_same, (Ext.new (f2.g2.fresh hp)).dps (all_app (f2.g.dps r1) r2)⟩)
/-! ### parts -/
def cutD (ds : List PyData) (lo hi : Option Int) : List PyData := (ds.drop (HT.sIx ds.length 0 lo)).take (HT.sIx ds.length ds.length hi - HT.sIx ds.length 0 lo)
theorem all_cut {K : PySem.W.Frag} {H : Hp} {xs : List V} (r : DpAll K H xs ds) (lo hi : Option Int) : DpAll K H (cutV xs lo hi) (cutD ds lo hi) := by
  unfold cutV cutD
  rw [all_len r]
  exact all_take _ (all_drop _ r)
def EvO (X : Cx) (o : Option Expr) (σ : L2.St) (H : Hp) (z : Option Int) : Prop := match o, z with
  | none, none => True
  | some e, some i => EvD X e σ H (.int i)
  | _, _ => False
def bP (X : Cx) (o : Option Expr) : TO := match o with
  | none => tNoPart
  | some e => tPart (bE X e)
theorem po_b {o : Option Expr} : PO X o (bP X o) := match o with
  | none => po_none
  | some _ => po_some pe_b
theorem EvO.mono {o : Option Expr} {z : Option Int} (E : Ext H H') (h : EvO X o σ H z) : EvO X o σ H' z := match o, z, h with
  | none, none, _ => trivial
  | some _, some _, h => EvD.mono E h
theorem eo_run {o : Option Expr} {z : Option Int} (h : EvO X o σ H z) {H1 : Hp} (E : Ext H H1) (t : TabsOk X.K H1) {Q : Option Int → Hp → Prop} (q : ∀ G H2, Fr X.K H H1 G H2 → Q z H2) : bP X o σ H1 Q := match o, z, h with
  | none, none, _ => q H H1 (Fr.refl E t)
  | some _, some i, h => h H1 E t _ fun v G H2 f r => by
    cases r
    exact ⟨i, rfl, q G H2 f⟩
theorem cut_whole {xs : List V} {lo hi : Option Int} (h : HT.sIx xs.length 0 lo = 0 ∧ HT.sIx xs.length xs.length hi = xs.length) : cutV xs lo hi = xs := by
  unfold cutV
  rw [h.1, h.2]
  simp
theorem ev_slT {ol oh : Option Expr} {zl zh : Option Int} (ha : EvD X a σ H (.tuple ds)) (hl : EvO X ol σ H zl) (hh : EvO X oh σ H zh) : EvD X (.Subscript a (.Slice ol oh none p2) pos) σ H (.tuple (cutD ds zl zh)) := fun H1 E t Q q =>
  PE.b (pe_slice sl_tupA pe_b po_b po_b) (ha H1 E t _ fun x G H2 f r => eo_run (EvO.mono f.g hl) f.g2 f.tok fun G2 H3 f2 => eo_run (EvO.mono (f.g.trans f2.g) hh) f2.g2 f2.tok fun G3 H4 f3 => by
    have g := f2.g.trans f3.g
    cases r with
    | tup hs r =>
      refine ⟨_, _, rfl, f3.g2.t (g.t hs), fun hw => ?_, fun hw p hp => ?_⟩
      · refine q _ G3 H4 ((f.trans f2).trans f3) ?_
        have e := all_cut (g.dps r) zl zh
        rw [cut_whole hw] at e
        exact .tup (g.t hs) e
      · exact q _ _ _ (((f.trans f2).trans f3).new hp rfl) (.tup (.inl (.inl upd_same)) ((Ext.new (f3.g2.fresh hp)).dps (all_cut (g.dps r) zl zh))))
theorem ek_slL {ol oh : Option Expr} {zl zh : Option Int} (ha : EvD X a σ H (.list ds)) (hl : EvO X ol σ H zl) (hh : EvO X oh σ H zh) : EvK X (.Subscript a (.Slice ol oh none p2) pos) σ H (cutD ds zl zh) := fun H1 E t Q q =>
  PE.b (pe_slice sl_list pe_b po_b po_b) (ha H1 E t _ fun x G H2 f r => eo_run (EvO.mono f.g hl) f.g2 f.tok fun G2 H3 f2 => eo_run (EvO.mono (f.g.trans f2.g) hh) f2.g2 f2.tok fun G3 H4 f3 => by
    have g := f2.g.trans f3.g
    cases r with
    | lst hs r => exact ⟨_, _, rfl, f3.g2.l (g.l hs), fun p hp => q _ _ _ (((f.trans f2).trans f3).new hp rfl) ⟨p, _, rfl, upd_same, (Ext.new (f3.g2.fresh hp)).dps (all_cut (g.dps r) zl zh)⟩⟩)
theorem cutD_take (n : Nat) : cutD ds none (some (n : Int)) = ds.take n := by
  unfold cutD
  rw [HT.sIx_none, HT.sIx_nat, List.drop_zero, Nat.sub_zero]
  rcases Nat.le_total n ds.length with h | h
  · rw [Nat.min_eq_left h]
  · rw [Nat.min_eq_right h, List.take_of_length_le (Nat.le_refl _), List.take_of_length_le h]
theorem cutD_drop (n : Nat) : cutD ds (some (n : Int)) none = ds.drop n := by
  unfold cutD
  rw [HT.sIx_none, HT.sIx_nat]
  rcases Nat.le_total n ds.length with h | h
  · rw [Nat.min_eq_left h, List.take_of_length_le (by rw [List.length_drop]; omega)]
  · rw [Nat.min_eq_right h, List.drop_eq_nil_of_le h, List.drop_eq_nil_of_le (Nat.le_refl _)]; simp
theorem ev_slTt {n : Nat} (ha : EvD X a σ H (.tuple ds)) (hh : EvD X b σ H (.int n)) : EvD X (.Subscript a (.Slice none (some b) none p2) pos) σ H (.tuple (ds.take n)) := by
  rw [← cutD_take n]
  exact ev_slT (ol := none) (oh := some b) (zl := none) (zh := some (n : Int)) ha trivial hh
theorem ev_slTf {n : Nat} (ha : EvD X a σ H (.tuple ds)) (hh : EvD X b σ H (.int n)) : EvD X (.Subscript a (.Slice (some b) none none p2) pos) σ H (.tuple (ds.drop n)) := by
  rw [← cutD_drop n]
  exact ev_slT (ol := some b) (oh := none) (zl := some (n : Int)) (zh := none) ha hh trivial
theorem ek_slLt {n : Nat} (ha : EvD X a σ H (.list ds)) (hh : EvD X b σ H (.int n)) : EvK X (.Subscript a (.Slice none (some b) none p2) pos) σ H (ds.take n) := by
  rw [← cutD_take n]
  exact ek_slL (ol := none) (oh := some b) (zl := none) (zh := some (n : Int)) ha trivial hh
theorem ek_slLf {n : Nat} (ha : EvD X a σ H (.list ds)) (hh : EvD X b σ H (.int n)) : EvK X (.Subscript a (.Slice (some b) none none p2) pos) σ H (ds.drop n) := by
  rw [← cutD_drop n]
  exact ek_slL (ol := some b) (oh := none) (zl := some (n : Int)) (zh := none) ha hh trivial
theorem cutD_both (n m : Nat) : cutD ds (some (n : Int)) (some (m : Int)) = (ds.take m).drop n := by
  unfold cutD
  rw [HT.sIx_nat, HT.sIx_nat]
  rw [List.drop_take]
  rcases Nat.le_total n ds.length with h | h
  · rw [Nat.min_eq_left h]
    rcases Nat.le_total m ds.length with h2 | h2
    · rw [Nat.min_eq_left h2]
    · rw [Nat.min_eq_right h2, List.take_of_length_le (by rw [List.length_drop]; omega), List.take_of_length_le (by rw [List.length_drop]; omega)]
  · rw [Nat.min_eq_right h, List.drop_eq_nil_of_le h, List.drop_eq_nil_of_le (Nat.le_refl _)]; simp
theorem ek_slLb {n m : Nat} (ha : EvD X a σ H (.list ds)) (hl : EvD X b σ H (.int n)) (hh : EvD X c σ H (.int m)) : EvK X (.Subscript a (.Slice (some b) (some c) none p2) pos) σ H ((ds.take m).drop n) := by
  rw [← cutD_both n m]
  exact ek_slL (ol := some b) (oh := some c) (zl := some (n : Int)) (zh := some (m : Int)) ha hl hh
/-! ### tuples joined -/
theorem opd_catT (hl : ds1.length + ds2.length ≤ 100000) : OpD X (binaryOp .Add) H (.tuple ds1) (.tuple ds2) (.tuple (ds1 ++ ds2)) := fun G H1 _ E t x y hx hy Q q => by
  cases hx with
  | tup h1 r1 =>
    cases hy with
    | tup h2 r2 =>
      refine OpR.b op_catA ⟨_, _, _, _, rfl, rfl, E.t h1, E.t h2, line_of (by rw [all_len r1, all_len r2]; exact hl), fun z => ?_, fun z1 z2 => ?_, fun z1 z2 p hp => ?_⟩
      · subst z
        cases r1
        exact q _ G H1 (Fr.refl E t) (.tup h2 r2)
      · subst z2
        cases r2
        rw [List.append_nil] at q
        exact q _ G H1 (Fr.refl E t) (.tup h1 r1)
      · exact q _ _ _ ((Fr.refl E t).new hp rfl) (.tup (.inl (.inl upd_same)) ((Ext.new (E.fresh hp)).dps (all_app r1 r2)))
theorem ev_catT (ha : EvD X a σ H (.tuple ds1)) (hb : EvD X b σ H (.tuple ds2)) (hl : ds1.length + ds2.length ≤ 100000) : EvD X (.BinOp a .Add b pos) σ H (.tuple (ds1 ++ ds2)) := ev_bin ha hb (opd_catT hl)
/-! ### list(..) -/
theorem ek_listT (ha : EvD X a σ H (.tuple ds)) (hm : X.mg "list" = none) (hg : Gl X "list" := by rfl) (he : starEach [a] X.env = (false, eval a X.env) :: starEach [] X.env := by rfl) : EvK X (.Call (.Name "list" p) [a] [] pos) σ H ds := fun H1 E t Q q =>
  PE.b (pe_callTy call_list_of hg hm (by decide +kernel) (pa_cons pe_b pa_nil he) (by decide) (by decide) he) (ha H1 E t _ fun v G H2 f r => by
    cases r with
    | tup hs r => exact ⟨_, _, rfl, .inr (f.g2.t hs), fun l hl => q _ _ _ (f.new hl rfl) ⟨l, _, rfl, upd_same, (Ext.new (f.g2.fresh hl)).dps r⟩⟩)
theorem ek_listL (ha : EvD X a σ H (.list ds)) (hm : X.mg "list" = none) (hg : Gl X "list" := by rfl) (he : starEach [a] X.env = (false, eval a X.env) :: starEach [] X.env := by rfl) : EvK X (.Call (.Name "list" p) [a] [] pos) σ H ds := fun H1 E t Q q =>
  PE.b (pe_callTy call_list_of hg hm (by decide +kernel) (pa_cons pe_b pa_nil he) (by decide) (by decide) he) (ha H1 E t _ fun v G H2 f r => by
    cases r with
    | lst hs r => exact ⟨_, _, rfl, .inl (f.g2.l hs), fun l hl => q _ _ _ (f.new hl rfl) ⟨l, _, rfl, upd_same, (Ext.new (f.g2.fresh hl)).dps r⟩⟩)
/-! ### not in range(n) -/
theorem cr_range1 : CallR X (.type "range") (fun vs H Q => ∃ j, vs = [V.int j] ∧ ∀ p, H p = none → Q (.ref p) (upd H p (.rng 0 j))) := by
  intro pins s σ H vs us Q I r h
  obtain ⟨j, rfl, q⟩ := h
  obtain ⟨u, rfl, ru⟩ := r.one
  obtain ⟨t, rfl⟩ := ru
  refine call_range_1 ⟨.ref s.heap.objs.size, upd H s.heap.objs.size (.rng 0 j), I.laid (t' := s.toks + 1 + 1) (fun b o e => Heap.get?_push_of_some _ e) (Nat.le_refl _) ?_, rfl, q _ (I.hok.fresh (Nat.le_refl _))⟩
  exact ⟨s.toks, t, s.toks + 1, Heap.get?_push_size _ rfl⟩
theorem op_notIn_rng : OpR X (compareOp .NotIn) (fun x y H Q => ∃ i a lo hi, x = V.int i ∧ y = V.ref a ∧ H a = some (.rng lo hi) ∧ Q (.bl (!decide (lo ≤ i ∧ i < hi))) H) := by
  intro pins s σ H x y v u Q I rx ry h
  obtain ⟨i, a, lo, hi, rfl, rfl, ha, q⟩ := h
  obtain ⟨k, rfl⟩ := rx
  obtain rfl : u = Value.ref a := ry
  obtain ⟨t1, t2, t3, ho⟩ := I.hok a _ ha
  show wpAny _ _ (do return Value.bool (!(← contains (Value.ref a) (Value.int i k)))) _ _ s
  refine wpAny_bind (wpAny_contains_slot (T := "range") ⟨_, ho, rfl⟩ F.slot_range_contains (call_meets F.slot_range_contains ⟨_, ho, rfl⟩ F.entry_range_contains (F.args_range_contains_2 _ _) (q_contains a lo hi i t1 t2 t3 k)
    ⟨ho, wpAny_truthy_bool (wpAny_pure ⟨.bl _, H, I, rfl, ?_⟩)⟩))
  rw [place1]
  exact q
theorem et_notInR (ha : EvD X a σ H (.int i)) (hb : EvD X b σ H (.int j)) (hm : X.mg "range" = none) (hg : Gl X "range" := by rfl) (he : starEach [b] X.env = (false, eval b X.env) :: starEach [] X.env := by rfl) (hmk : behindInMarks .NotIn (.Call (.Name "range" p) [b] [] p2) = false := by rfl) :
    EvT X (.Compare a [.NotIn] [.Call (.Name "range" p) [b] [] p2] pos) σ H (!decide (0 ≤ i ∧ i < j)) := fun H1 E t Q q =>
  PT.b (pt_cmpR op_notIn_rng pe_b (pe_callTy cr_range1 hg hm (by decide +kernel) (pa_cons pe_b pa_nil he) (by decide) (by decide) he) hmk) (ha H1 E t _ fun x G H2 f r => hb.mono f.g H2 f.g2 f.tok _ fun y G2 H3 f2 r2 => by
    cases r; cases r2
    refine ⟨j, rfl, fun p hp => ⟨i, p, 0, j, rfl, rfl, upd_same, _, rfl, q _ _ ((f.trans f2).new hp rfl)⟩⟩)
/-! ### e is True, e is False -/
theorem ev_isB (ha : EvD X a σ H (.bool k)) (hb : EvD X b σ H (.bool l)) (hm : behindInMarks .Is b = false := by rfl) : EvD X (.Compare a [.Is] [b] pos) σ H (.bool (decide (k = l))) := ev_cmp ha hb (fun G H1 _ E t x y hx hy Q q => by
  cases hx; cases hy
  exact OpR.b op_isBl ⟨k, l, rfl, rfl, q _ G H1 (Fr.refl E t) (.bl _)⟩) hm
end
end C

namespace C
open PySem PySem.W L2
/-- the end where one def holds a generator expression: what is known of that def's table goes into the promise -/
theorem walk_tab {l : OpenLaw} {n k : Nat} {q : Program} {loose : List Str} {XP : (Str → Option Value) → Heap → Prop} {YP : World → Heap → Prop} {d : DefRec} {K : Params → Frag}
    {CX : World → CXT} {x key : Str} (h1 : l.most = some n) (h2 : n ≤ sizeLine) (h3 : d.params.defaults = []) (room : Room k callerA) (hkey : ∃ dk, (PyProof.Rows.recsOf q).find? (fun e => e.name == key) = some dk)
    (inK : ∀ (w : World) (h : Heap), YP w h → (K w.params).In h)
    (F : ∀ (w : World) (mg : Str → Option Value) (fa : Addr) (h : Heap), (K w.params).In h → h.Ns mainGlobals mg → mg d.name = some (.ref fa) →
      (∀ c P, tabIn (K w.params) key = some (c, P) → CodeHd h c P ∧ h.get? P = some { cls := .none, data := .fields #[] }) → LamX.LawAtS l w (K w.params) (CX w) k n x mg fa h)
    (noX : ∀ (w : World) (H : Hp) (s : Shared) (e : Value) (s' : Shared), CX w [] H s (fun _ _ _ => False) e s' → False) : WalkO q loose XP YP l.row.toRowW d [] (fun f vs => PySem.call f vs) := by
  refine Att.attach_callB h1 h3 ?_
  intro w sA sB mg mb fa o pm cd doc a vs ns ground y _ _ _ named scr scrInts few bits noGens
  have kin := inK w _ y
  obtain ⟨dk, hkey⟩ := hkey
  obtain ⟨fd, cs, sp, tabs, noTabs, codes, binds, promise, body⟩ := F w mg fa _ kin ground.T.g named fun c P e => tab_of ground.T kin hkey e
  exact LamX.law_callTs kin ground.T.g ground.T.b ground.T.builtins ground.T.nolimit noGens tabs noTabs codes ground.T.bmain scr scrInts
    (Nat.le_trans few h2) room body binds (fun H a1 a2 => promise H a ns few bits a1 a2) (fun H e s' => noX w H _ e s')
theorem tabIn_mk {K : Frag} {x : Str} {f c P : Addr} {oc e : Value} {od dd : Option Addr} {osl sl : Array (Option Value)} {fd : FuncData} {vs : Array Value} (a : nsIn K mainGlobals x = some (some (.ref f)))
    (b : K.lookup f = some ⟨oc, od, .func fd, osl⟩) (hc : fd.code = .ref c) (k : K.lookup c = some ⟨e, dd, .fields vs, sl⟩) (v : (vs[11]? : Option Value) = some (.ref P)) : tabIn K x = some (c, P) := by
  unfold tabIn
  simp only [a, b, hc, k, v]
theorem tabB_of {base : Heap} {mg : Str → Option Value} {c P : Addr} (t : LamX.TabB base mg c P) : GxR.TabB base mg c P := ⟨t.code, t.bm, t.gP⟩
theorem ints_dp {K : Frag} {H : Hp} : ∀ ns : List Int, DpAll K H (ns.map V.int) (ns.map PyData.int)
  | [] => .nil
  | n :: ns => .cons (.int n) (ints_dp ns)
end C

namespace Pf
open PySem L2 C
def top (i : Nat) : Stmt := PySem.Challenge.pw_chainkeep_k01_deeds_known.main.body.getD i (.Pass ⟨0, 0, 0, 0⟩)
abbrev s_is_number : Stmt := top 2
theorem sc_is_number : FnScope ["thing"] ["thing"] (defScope s_is_number) := ⟨rfl, rfl, rfl, by decide +kernel, rfl, by decide +kernel, by decide +kernel⟩
abbrev s_is_key : Stmt := top 3
theorem sc_is_key : FnScope ["thing"] ["thing"] (defScope s_is_key) := ⟨rfl, rfl, rfl, by decide +kernel, rfl, by decide +kernel, by decide +kernel⟩
abbrev s_is_deed : Stmt := top 4
theorem sc_is_deed : FnScope ["thing", "asker", "turn", "word", "key", "value"] ["thing"] (defScope s_is_deed) := ⟨rfl, rfl, rfl, by decide +kernel, rfl, by decide +kernel, by decide +kernel⟩
abbrev s__law_cell_at : Stmt := top 6
theorem sc__law_cell_at : FnScope ["_law_script", "_law_k"] ["_law_script", "_law_k"] (defScope s__law_cell_at) := ⟨rfl, rfl, rfl, by decide +kernel, rfl, by decide +kernel, by decide +kernel⟩
abbrev s__law_mixed : Stmt := top 7
theorem sc__law_mixed : FnScope ["_law_cell", "_law_k", "_law_number"] ["_law_cell", "_law_k"] (defScope s__law_mixed) := ⟨rfl, rfl, rfl, by decide +kernel, rfl, by decide +kernel, by decide +kernel⟩
abbrev s__law_whole : Stmt := top 8
theorem sc__law_whole : FnScope ["_law_found"] ["_law_found"] (defScope s__law_whole) := ⟨rfl, rfl, rfl, by decide +kernel, rfl, by decide +kernel, by decide +kernel⟩
abbrev s__law_text : Stmt := top 9
theorem sc__law_text : FnScope ["_law_script", "_law_signs", "_law_text_here", "_law_k", "_law_number"] ["_law_script"] (defScope s__law_text) := ⟨rfl, rfl, rfl, by decide +kernel, rfl, by decide +kernel, by decide +kernel⟩
abbrev s__law_put : Stmt := top 10
theorem sc__law_put : FnScope ["_law_deed", "_law_number", "_law_text_here", "_law_at", "_law_many", "_law_some"] ["_law_deed", "_law_number", "_law_text_here"] (defScope s__law_put) := ⟨rfl, rfl, rfl, by decide +kernel, rfl, by decide +kernel, by decide +kernel⟩
abbrev s__law_key_due : Stmt := top 11
theorem sc__law_key_due : FnScope ["_law_thing", "_law_sign"] ["_law_thing"] (defScope s__law_key_due) := ⟨rfl, rfl, rfl, by decide +kernel, rfl, by decide +kernel, by decide +kernel⟩
abbrev s__law_deed_due : Stmt := top 12
theorem sc__law_deed_due : FnScope ["_law_deed", "_law_k"] ["_law_deed"] (defScope s__law_deed_due) := ⟨rfl, rfl, rfl, by decide +kernel, rfl, by decide +kernel, by decide +kernel⟩
abbrev s__law_truth : Stmt := top 13
theorem sc__law_truth : FnScope ["_law_found", "_law_due"] ["_law_found", "_law_due"] (defScope s__law_truth) := ⟨rfl, rfl, rfl, by decide +kernel, rfl, by decide +kernel, by decide +kernel⟩
abbrev s_law : Stmt := top 14
theorem sc_law : FnScope ["_law_script", "_law_text_here", "_law_first", "_law_word", "_law_value", "_law_key", "_law_deed", "_law_ways", "_law_shape", "_law_thing", "_law_one"] ["_law_script"] (defScope s_law) := ⟨rfl, rfl, rfl, by decide +kernel, rfl, by decide +kernel, by decide +kernel⟩
structure MF (K : PySem.W.Frag) (mg : Str → Option Value) where
  a_is_number : Addr
  d_is_number : FuncData
  F_is_number : Fun K "is_number" "is_number" s_is_number a_is_number d_is_number
  b_is_number : Binds K d_is_number ["thing"] []
  m_is_number : mg "is_number" = some (.ref a_is_number)
  a_is_key : Addr
  d_is_key : FuncData
  F_is_key : Fun K "is_key" "is_key" s_is_key a_is_key d_is_key
  b_is_key : Binds K d_is_key ["thing"] []
  m_is_key : mg "is_key" = some (.ref a_is_key)
  c_key : Addr
  p_key : Addr
  tk_key : PySem.W.tabIn K "is_key" = some (c_key, p_key)
  n_key : K.lookup p_key = none
  x_key : ∃ (oc : Value) (od an : Option Addr) (kV doc pm ct : Value) (osl : Array (Option Value)), d_is_key = PySem.W.fnOf "is_key" "is_key" (defArgs s_is_key) (defBody s_is_key) (defScope s_is_key) .none kV doc pm an (.ref c_key) ct ∧ K.lookup a_is_key = some ⟨oc, od, .func d_is_key, osl⟩ ∧ PySem.W.codeIn K (.ref c_key) "is_key" = true
  a_is_deed : Addr
  d_is_deed : FuncData
  F_is_deed : Fun K "is_deed" "is_deed" s_is_deed a_is_deed d_is_deed
  b_is_deed : Binds K d_is_deed ["thing"] []
  m_is_deed : mg "is_deed" = some (.ref a_is_deed)
  a__law_cell_at : Addr
  d__law_cell_at : FuncData
  F__law_cell_at : Fun K "_law_cell_at" "_law_cell_at" s__law_cell_at a__law_cell_at d__law_cell_at
  b__law_cell_at : Binds K d__law_cell_at ["_law_script", "_law_k"] []
  m__law_cell_at : mg "_law_cell_at" = some (.ref a__law_cell_at)
  a__law_mixed : Addr
  d__law_mixed : FuncData
  F__law_mixed : Fun K "_law_mixed" "_law_mixed" s__law_mixed a__law_mixed d__law_mixed
  b__law_mixed : Binds K d__law_mixed ["_law_cell", "_law_k"] []
  m__law_mixed : mg "_law_mixed" = some (.ref a__law_mixed)
  a__law_whole : Addr
  d__law_whole : FuncData
  F__law_whole : Fun K "_law_whole" "_law_whole" s__law_whole a__law_whole d__law_whole
  b__law_whole : Binds K d__law_whole ["_law_found"] []
  m__law_whole : mg "_law_whole" = some (.ref a__law_whole)
  a__law_text : Addr
  d__law_text : FuncData
  F__law_text : Fun K "_law_text" "_law_text" s__law_text a__law_text d__law_text
  b__law_text : Binds K d__law_text ["_law_script"] []
  m__law_text : mg "_law_text" = some (.ref a__law_text)
  a__law_put : Addr
  d__law_put : FuncData
  F__law_put : Fun K "_law_put" "_law_put" s__law_put a__law_put d__law_put
  b__law_put : Binds K d__law_put ["_law_deed", "_law_number", "_law_text_here"] []
  m__law_put : mg "_law_put" = some (.ref a__law_put)
  a__law_key_due : Addr
  d__law_key_due : FuncData
  F__law_key_due : Fun K "_law_key_due" "_law_key_due" s__law_key_due a__law_key_due d__law_key_due
  b__law_key_due : Binds K d__law_key_due ["_law_thing"] []
  m__law_key_due : mg "_law_key_due" = some (.ref a__law_key_due)
  a__law_deed_due : Addr
  d__law_deed_due : FuncData
  F__law_deed_due : Fun K "_law_deed_due" "_law_deed_due" s__law_deed_due a__law_deed_due d__law_deed_due
  b__law_deed_due : Binds K d__law_deed_due ["_law_deed"] []
  m__law_deed_due : mg "_law_deed_due" = some (.ref a__law_deed_due)
  a__law_truth : Addr
  d__law_truth : FuncData
  F__law_truth : Fun K "_law_truth" "_law_truth" s__law_truth a__law_truth d__law_truth
  b__law_truth : Binds K d__law_truth ["_law_found", "_law_due"] []
  m__law_truth : mg "_law_truth" = some (.ref a__law_truth)
  a_law : Addr
  d_law : FuncData
  F_law : Fun K "law" "law" s_law a_law d_law
  b_law : Binds K d_law ["_law_script"] []
  m_law : mg "law" = some (.ref a_law)
  s_law : ∀ (s : Shared) (u : Value), BindsTo s d_law ⟨[u], []⟩ [("_law_script", u)]
  w_WORDS : Addr
  mc_WORDS : mg "WORDS" = some (.ref w_WORDS)
  t_WORDS : ∀ H, SqT K H w_WORDS [.str "put", .str "add", .str "once", .str "away"]
  z_isinstance : mg "isinstance" = none
  z_int : mg "int" = none
  z_bool : mg "bool" = none
  z_str : mg "str" = none
  z_len : mg "len" = none
  z_all : mg "all" = none
  z_tuple : mg "tuple" = none
  z_range : mg "range" = none
  z_list : mg "list" = none
def all_mk {K : PySem.W.Frag} {h : Heap} {mg : Str → Option Value} (X : K.In h) (G : h.Ns mainGlobals mg)
    {f_is_number : Addr} {od_is_number an_is_number : Option Addr} {sl_is_number : Array (Option Value)} {oc_is_number kV_is_number dc_is_number pm_is_number ct_is_number : Value} {cd_is_number : Value}
    {f_is_key : Addr} {od_is_key an_is_key : Option Addr} {sl_is_key : Array (Option Value)} {oc_is_key kV_is_key dc_is_key pm_is_key ct_is_key : Value} {cK : Addr}
    {pK : Addr}
    {eK : Value} {dK : Option Addr} {vK : Array Value} {slK : Array (Option Value)}
    {f_is_deed : Addr} {od_is_deed an_is_deed : Option Addr} {sl_is_deed : Array (Option Value)} {oc_is_deed kV_is_deed dc_is_deed pm_is_deed ct_is_deed : Value} {cd_is_deed : Value}
    {f__law_cell_at : Addr} {od__law_cell_at an__law_cell_at : Option Addr} {sl__law_cell_at : Array (Option Value)} {oc__law_cell_at kV__law_cell_at dc__law_cell_at pm__law_cell_at ct__law_cell_at : Value} {cd__law_cell_at : Value}
    {f__law_mixed : Addr} {od__law_mixed an__law_mixed : Option Addr} {sl__law_mixed : Array (Option Value)} {oc__law_mixed kV__law_mixed dc__law_mixed pm__law_mixed ct__law_mixed : Value} {cd__law_mixed : Value}
    {f__law_whole : Addr} {od__law_whole an__law_whole : Option Addr} {sl__law_whole : Array (Option Value)} {oc__law_whole kV__law_whole dc__law_whole pm__law_whole ct__law_whole : Value} {cd__law_whole : Value}
    {f__law_text : Addr} {od__law_text an__law_text : Option Addr} {sl__law_text : Array (Option Value)} {oc__law_text kV__law_text dc__law_text pm__law_text ct__law_text : Value} {cd__law_text : Value}
    {f__law_put : Addr} {od__law_put an__law_put : Option Addr} {sl__law_put : Array (Option Value)} {oc__law_put kV__law_put dc__law_put pm__law_put ct__law_put : Value} {cd__law_put : Value}
    {f__law_key_due : Addr} {od__law_key_due an__law_key_due : Option Addr} {sl__law_key_due : Array (Option Value)} {oc__law_key_due kV__law_key_due dc__law_key_due pm__law_key_due ct__law_key_due : Value} {cd__law_key_due : Value}
    {f__law_deed_due : Addr} {od__law_deed_due an__law_deed_due : Option Addr} {sl__law_deed_due : Array (Option Value)} {oc__law_deed_due kV__law_deed_due dc__law_deed_due pm__law_deed_due ct__law_deed_due : Value} {cd__law_deed_due : Value}
    {f__law_truth : Addr} {od__law_truth an__law_truth : Option Addr} {sl__law_truth : Array (Option Value)} {oc__law_truth kV__law_truth dc__law_truth pm__law_truth ct__law_truth : Value} {cd__law_truth : Value}
    {f_law : Addr} {od_law an_law : Option Addr} {sl_law : Array (Option Value)} {oc_law kV_law dc_law pm_law ct_law : Value} {cd_law : Value}
    {w_WORDS : Addr} {od_WORDS : Option Addr} {n_WORDS : Nat} {sl_WORDS : Array (Option Value)} {t0_WORDS t1_WORDS t2_WORDS t3_WORDS : Tok}
    (a_is_number : PySem.W.nsIn K mainGlobals "is_number" = some (some (.ref f_is_number)))
    (l_is_number : K.lookup f_is_number = some ⟨oc_is_number, od_is_number, .func (PySem.W.fnOf "is_number" "is_number" (defArgs s_is_number) (defBody s_is_number) (defScope s_is_number) .none kV_is_number dc_is_number pm_is_number an_is_number (cd_is_number) ct_is_number), sl_is_number⟩)
    (c_is_number : PySem.W.codeIn K (cd_is_number) "is_number" = true)
    (k_is_number : PySem.W.keepIn K (.ref f_is_number) = true)
    (a_is_key : PySem.W.nsIn K mainGlobals "is_key" = some (some (.ref f_is_key)))
    (l_is_key : K.lookup f_is_key = some ⟨oc_is_key, od_is_key, .func (PySem.W.fnOf "is_key" "is_key" (defArgs s_is_key) (defBody s_is_key) (defScope s_is_key) .none kV_is_key dc_is_key pm_is_key an_is_key (.ref cK) ct_is_key), sl_is_key⟩)
    (c_is_key : PySem.W.codeIn K (.ref cK) "is_key" = true)
    (k_is_key : PySem.W.keepIn K (.ref f_is_key) = true)
    (lc_key : K.lookup cK = some ⟨eK, dK, .fields vK, slK⟩)
    (v_key : (vK[11]? : Option Value) = some (.ref pK))
    (n_key : K.lookup pK = none)
    (a_is_deed : PySem.W.nsIn K mainGlobals "is_deed" = some (some (.ref f_is_deed)))
    (l_is_deed : K.lookup f_is_deed = some ⟨oc_is_deed, od_is_deed, .func (PySem.W.fnOf "is_deed" "is_deed" (defArgs s_is_deed) (defBody s_is_deed) (defScope s_is_deed) .none kV_is_deed dc_is_deed pm_is_deed an_is_deed (cd_is_deed) ct_is_deed), sl_is_deed⟩)
    (c_is_deed : PySem.W.codeIn K (cd_is_deed) "is_deed" = true)
    (k_is_deed : PySem.W.keepIn K (.ref f_is_deed) = true)
    (a__law_cell_at : PySem.W.nsIn K mainGlobals "_law_cell_at" = some (some (.ref f__law_cell_at)))
    (l__law_cell_at : K.lookup f__law_cell_at = some ⟨oc__law_cell_at, od__law_cell_at, .func (PySem.W.fnOf "_law_cell_at" "_law_cell_at" (defArgs s__law_cell_at) (defBody s__law_cell_at) (defScope s__law_cell_at) .none kV__law_cell_at dc__law_cell_at pm__law_cell_at an__law_cell_at (cd__law_cell_at) ct__law_cell_at), sl__law_cell_at⟩)
    (c__law_cell_at : PySem.W.codeIn K (cd__law_cell_at) "_law_cell_at" = true)
    (k__law_cell_at : PySem.W.keepIn K (.ref f__law_cell_at) = true)
    (a__law_mixed : PySem.W.nsIn K mainGlobals "_law_mixed" = some (some (.ref f__law_mixed)))
    (l__law_mixed : K.lookup f__law_mixed = some ⟨oc__law_mixed, od__law_mixed, .func (PySem.W.fnOf "_law_mixed" "_law_mixed" (defArgs s__law_mixed) (defBody s__law_mixed) (defScope s__law_mixed) .none kV__law_mixed dc__law_mixed pm__law_mixed an__law_mixed (cd__law_mixed) ct__law_mixed), sl__law_mixed⟩)
    (c__law_mixed : PySem.W.codeIn K (cd__law_mixed) "_law_mixed" = true)
    (k__law_mixed : PySem.W.keepIn K (.ref f__law_mixed) = true)
    (a__law_whole : PySem.W.nsIn K mainGlobals "_law_whole" = some (some (.ref f__law_whole)))
    (l__law_whole : K.lookup f__law_whole = some ⟨oc__law_whole, od__law_whole, .func (PySem.W.fnOf "_law_whole" "_law_whole" (defArgs s__law_whole) (defBody s__law_whole) (defScope s__law_whole) .none kV__law_whole dc__law_whole pm__law_whole an__law_whole (cd__law_whole) ct__law_whole), sl__law_whole⟩)
    (c__law_whole : PySem.W.codeIn K (cd__law_whole) "_law_whole" = true)
    (k__law_whole : PySem.W.keepIn K (.ref f__law_whole) = true)
    (a__law_text : PySem.W.nsIn K mainGlobals "_law_text" = some (some (.ref f__law_text)))
    (l__law_text : K.lookup f__law_text = some ⟨oc__law_text, od__law_text, .func (PySem.W.fnOf "_law_text" "_law_text" (defArgs s__law_text) (defBody s__law_text) (defScope s__law_text) .none kV__law_text dc__law_text pm__law_text an__law_text (cd__law_text) ct__law_text), sl__law_text⟩)
    (c__law_text : PySem.W.codeIn K (cd__law_text) "_law_text" = true)
    (k__law_text : PySem.W.keepIn K (.ref f__law_text) = true)
    (a__law_put : PySem.W.nsIn K mainGlobals "_law_put" = some (some (.ref f__law_put)))
    (l__law_put : K.lookup f__law_put = some ⟨oc__law_put, od__law_put, .func (PySem.W.fnOf "_law_put" "_law_put" (defArgs s__law_put) (defBody s__law_put) (defScope s__law_put) .none kV__law_put dc__law_put pm__law_put an__law_put (cd__law_put) ct__law_put), sl__law_put⟩)
    (c__law_put : PySem.W.codeIn K (cd__law_put) "_law_put" = true)
    (k__law_put : PySem.W.keepIn K (.ref f__law_put) = true)
    (a__law_key_due : PySem.W.nsIn K mainGlobals "_law_key_due" = some (some (.ref f__law_key_due)))
    (l__law_key_due : K.lookup f__law_key_due = some ⟨oc__law_key_due, od__law_key_due, .func (PySem.W.fnOf "_law_key_due" "_law_key_due" (defArgs s__law_key_due) (defBody s__law_key_due) (defScope s__law_key_due) .none kV__law_key_due dc__law_key_due pm__law_key_due an__law_key_due (cd__law_key_due) ct__law_key_due), sl__law_key_due⟩)
    (c__law_key_due : PySem.W.codeIn K (cd__law_key_due) "_law_key_due" = true)
    (k__law_key_due : PySem.W.keepIn K (.ref f__law_key_due) = true)
    (a__law_deed_due : PySem.W.nsIn K mainGlobals "_law_deed_due" = some (some (.ref f__law_deed_due)))
    (l__law_deed_due : K.lookup f__law_deed_due = some ⟨oc__law_deed_due, od__law_deed_due, .func (PySem.W.fnOf "_law_deed_due" "_law_deed_due" (defArgs s__law_deed_due) (defBody s__law_deed_due) (defScope s__law_deed_due) .none kV__law_deed_due dc__law_deed_due pm__law_deed_due an__law_deed_due (cd__law_deed_due) ct__law_deed_due), sl__law_deed_due⟩)
    (c__law_deed_due : PySem.W.codeIn K (cd__law_deed_due) "_law_deed_due" = true)
    (k__law_deed_due : PySem.W.keepIn K (.ref f__law_deed_due) = true)
    (a__law_truth : PySem.W.nsIn K mainGlobals "_law_truth" = some (some (.ref f__law_truth)))
    (l__law_truth : K.lookup f__law_truth = some ⟨oc__law_truth, od__law_truth, .func (PySem.W.fnOf "_law_truth" "_law_truth" (defArgs s__law_truth) (defBody s__law_truth) (defScope s__law_truth) .none kV__law_truth dc__law_truth pm__law_truth an__law_truth (cd__law_truth) ct__law_truth), sl__law_truth⟩)
    (c__law_truth : PySem.W.codeIn K (cd__law_truth) "_law_truth" = true)
    (k__law_truth : PySem.W.keepIn K (.ref f__law_truth) = true)
    (a_law : PySem.W.nsIn K mainGlobals "law" = some (some (.ref f_law)))
    (l_law : K.lookup f_law = some ⟨oc_law, od_law, .func (PySem.W.fnOf "law" "law" (defArgs s_law) (defBody s_law) (defScope s_law) .none kV_law dc_law pm_law an_law (cd_law) ct_law), sl_law⟩)
    (c_law : PySem.W.codeIn K (cd_law) "law" = true)
    (k_law : PySem.W.keepIn K (.ref f_law) = true)
    (mc_WORDS : PySem.W.nsIn K mainGlobals "WORDS" = some (some (.ref w_WORDS)))
    (lc_WORDS : K.lookup w_WORDS = some ⟨.type "tuple", od_WORDS, .seq #[.str "put" t0_WORDS, .str "add" t1_WORDS, .str "once" t2_WORDS, .str "away" t3_WORDS] n_WORDS, sl_WORDS⟩)
    (z_isinstance : PySem.W.nsIn K mainGlobals "isinstance" = some none)
    (z_int : PySem.W.nsIn K mainGlobals "int" = some none)
    (z_bool : PySem.W.nsIn K mainGlobals "bool" = some none)
    (z_str : PySem.W.nsIn K mainGlobals "str" = some none)
    (z_len : PySem.W.nsIn K mainGlobals "len" = some none)
    (z_all : PySem.W.nsIn K mainGlobals "all" = some none)
    (z_tuple : PySem.W.nsIn K mainGlobals "tuple" = some none)
    (z_range : PySem.W.nsIn K mainGlobals "range" = some none)
    (z_list : PySem.W.nsIn K mainGlobals "list" = some none) : MF K mg :=
  have F_is_number := fun_mk (st := s_is_number) l_is_number c_is_number k_is_number
  have F_is_key := fun_mk (st := s_is_key) l_is_key c_is_key k_is_key
  have F_is_deed := fun_mk (st := s_is_deed) l_is_deed c_is_deed k_is_deed
  have F__law_cell_at := fun_mk (st := s__law_cell_at) l__law_cell_at c__law_cell_at k__law_cell_at
  have F__law_mixed := fun_mk (st := s__law_mixed) l__law_mixed c__law_mixed k__law_mixed
  have F__law_whole := fun_mk (st := s__law_whole) l__law_whole c__law_whole k__law_whole
  have F__law_text := fun_mk (st := s__law_text) l__law_text c__law_text k__law_text
  have F__law_put := fun_mk (st := s__law_put) l__law_put c__law_put k__law_put
  have F__law_key_due := fun_mk (st := s__law_key_due) l__law_key_due c__law_key_due k__law_key_due
  have F__law_deed_due := fun_mk (st := s__law_deed_due) l__law_deed_due c__law_deed_due k__law_deed_due
  have F__law_truth := fun_mk (st := s__law_truth) l__law_truth c__law_truth k__law_truth
  have F_law := fun_mk (st := s_law) l_law c_law k_law
  { a_is_number := f_is_number
    d_is_number := (PySem.W.fnOf "is_number" "is_number" (defArgs s_is_number) (defBody s_is_number) (defScope s_is_number) .none kV_is_number dc_is_number pm_is_number an_is_number (cd_is_number) ct_is_number)
    F_is_number := F_is_number
    b_is_number := F_is_number.binds (ps := ["thing"]) fun _ _ _ _ _ _ us hl => match us, hl with | [_], _ => rfl
    m_is_number := PySem.W.mg_of X G a_is_number
    a_is_key := f_is_key
    d_is_key := (PySem.W.fnOf "is_key" "is_key" (defArgs s_is_key) (defBody s_is_key) (defScope s_is_key) .none kV_is_key dc_is_key pm_is_key an_is_key (.ref cK) ct_is_key)
    F_is_key := F_is_key
    b_is_key := F_is_key.binds (ps := ["thing"]) fun _ _ _ _ _ _ us hl => match us, hl with | [_], _ => rfl
    m_is_key := PySem.W.mg_of X G a_is_key
    c_key := cK
    p_key := pK
    tk_key := tabIn_mk a_is_key l_is_key rfl lc_key v_key
    n_key := n_key
    x_key := ⟨oc_is_key, od_is_key, an_is_key, kV_is_key, dc_is_key, pm_is_key, ct_is_key, sl_is_key, rfl, l_is_key, c_is_key⟩
    a_is_deed := f_is_deed
    d_is_deed := (PySem.W.fnOf "is_deed" "is_deed" (defArgs s_is_deed) (defBody s_is_deed) (defScope s_is_deed) .none kV_is_deed dc_is_deed pm_is_deed an_is_deed (cd_is_deed) ct_is_deed)
    F_is_deed := F_is_deed
    b_is_deed := F_is_deed.binds (ps := ["thing"]) fun _ _ _ _ _ _ us hl => match us, hl with | [_], _ => rfl
    m_is_deed := PySem.W.mg_of X G a_is_deed
    a__law_cell_at := f__law_cell_at
    d__law_cell_at := (PySem.W.fnOf "_law_cell_at" "_law_cell_at" (defArgs s__law_cell_at) (defBody s__law_cell_at) (defScope s__law_cell_at) .none kV__law_cell_at dc__law_cell_at pm__law_cell_at an__law_cell_at (cd__law_cell_at) ct__law_cell_at)
    F__law_cell_at := F__law_cell_at
    b__law_cell_at := F__law_cell_at.binds (ps := ["_law_script", "_law_k"]) fun _ _ _ _ _ _ us hl => match us, hl with | [_, _], _ => rfl
    m__law_cell_at := PySem.W.mg_of X G a__law_cell_at
    a__law_mixed := f__law_mixed
    d__law_mixed := (PySem.W.fnOf "_law_mixed" "_law_mixed" (defArgs s__law_mixed) (defBody s__law_mixed) (defScope s__law_mixed) .none kV__law_mixed dc__law_mixed pm__law_mixed an__law_mixed (cd__law_mixed) ct__law_mixed)
    F__law_mixed := F__law_mixed
    b__law_mixed := F__law_mixed.binds (ps := ["_law_cell", "_law_k"]) fun _ _ _ _ _ _ us hl => match us, hl with | [_, _], _ => rfl
    m__law_mixed := PySem.W.mg_of X G a__law_mixed
    a__law_whole := f__law_whole
    d__law_whole := (PySem.W.fnOf "_law_whole" "_law_whole" (defArgs s__law_whole) (defBody s__law_whole) (defScope s__law_whole) .none kV__law_whole dc__law_whole pm__law_whole an__law_whole (cd__law_whole) ct__law_whole)
    F__law_whole := F__law_whole
    b__law_whole := F__law_whole.binds (ps := ["_law_found"]) fun _ _ _ _ _ _ us hl => match us, hl with | [_], _ => rfl
    m__law_whole := PySem.W.mg_of X G a__law_whole
    a__law_text := f__law_text
    d__law_text := (PySem.W.fnOf "_law_text" "_law_text" (defArgs s__law_text) (defBody s__law_text) (defScope s__law_text) .none kV__law_text dc__law_text pm__law_text an__law_text (cd__law_text) ct__law_text)
    F__law_text := F__law_text
    b__law_text := F__law_text.binds (ps := ["_law_script"]) fun _ _ _ _ _ _ us hl => match us, hl with | [_], _ => rfl
    m__law_text := PySem.W.mg_of X G a__law_text
    a__law_put := f__law_put
    d__law_put := (PySem.W.fnOf "_law_put" "_law_put" (defArgs s__law_put) (defBody s__law_put) (defScope s__law_put) .none kV__law_put dc__law_put pm__law_put an__law_put (cd__law_put) ct__law_put)
    F__law_put := F__law_put
    b__law_put := F__law_put.binds (ps := ["_law_deed", "_law_number", "_law_text_here"]) fun _ _ _ _ _ _ us hl => match us, hl with | [_, _, _], _ => rfl
    m__law_put := PySem.W.mg_of X G a__law_put
    a__law_key_due := f__law_key_due
    d__law_key_due := (PySem.W.fnOf "_law_key_due" "_law_key_due" (defArgs s__law_key_due) (defBody s__law_key_due) (defScope s__law_key_due) .none kV__law_key_due dc__law_key_due pm__law_key_due an__law_key_due (cd__law_key_due) ct__law_key_due)
    F__law_key_due := F__law_key_due
    b__law_key_due := F__law_key_due.binds (ps := ["_law_thing"]) fun _ _ _ _ _ _ us hl => match us, hl with | [_], _ => rfl
    m__law_key_due := PySem.W.mg_of X G a__law_key_due
    a__law_deed_due := f__law_deed_due
    d__law_deed_due := (PySem.W.fnOf "_law_deed_due" "_law_deed_due" (defArgs s__law_deed_due) (defBody s__law_deed_due) (defScope s__law_deed_due) .none kV__law_deed_due dc__law_deed_due pm__law_deed_due an__law_deed_due (cd__law_deed_due) ct__law_deed_due)
    F__law_deed_due := F__law_deed_due
    b__law_deed_due := F__law_deed_due.binds (ps := ["_law_deed"]) fun _ _ _ _ _ _ us hl => match us, hl with | [_], _ => rfl
    m__law_deed_due := PySem.W.mg_of X G a__law_deed_due
    a__law_truth := f__law_truth
    d__law_truth := (PySem.W.fnOf "_law_truth" "_law_truth" (defArgs s__law_truth) (defBody s__law_truth) (defScope s__law_truth) .none kV__law_truth dc__law_truth pm__law_truth an__law_truth (cd__law_truth) ct__law_truth)
    F__law_truth := F__law_truth
    b__law_truth := F__law_truth.binds (ps := ["_law_found", "_law_due"]) fun _ _ _ _ _ _ us hl => match us, hl with | [_, _], _ => rfl
    m__law_truth := PySem.W.mg_of X G a__law_truth
    a_law := f_law
    d_law := (PySem.W.fnOf "law" "law" (defArgs s_law) (defBody s_law) (defScope s_law) .none kV_law dc_law pm_law an_law (cd_law) ct_law)
    F_law := F_law
    b_law := F_law.binds (ps := ["_law_script"]) fun _ _ _ _ _ _ us hl => match us, hl with | [_], _ => rfl
    m_law := PySem.W.mg_of X G a_law
    s_law := fun s v => .of_eq rfl
    w_WORDS := w_WORDS
    mc_WORDS := PySem.W.mg_of X G mc_WORDS
    t_WORDS := fun H => .inr ⟨_, _, _, lc_WORDS, rfl, rfl, (by show 4 ≤ sizeLine; decide), .cons ⟨_, rfl⟩ (.cons ⟨_, rfl⟩ (.cons ⟨_, rfl⟩ (.cons ⟨_, rfl⟩ (.nil))))⟩
    z_isinstance := PySem.W.mg_none_of X G z_isinstance
    z_int := PySem.W.mg_none_of X G z_int
    z_bool := PySem.W.mg_none_of X G z_bool
    z_str := PySem.W.mg_none_of X G z_str
    z_len := PySem.W.mg_none_of X G z_len
    z_all := PySem.W.mg_none_of X G z_all
    z_tuple := PySem.W.mg_none_of X G z_tuple
    z_range := PySem.W.mg_none_of X G z_range
    z_list := PySem.W.mg_none_of X G z_list }
end Pf

namespace Pf
open PySem L2 C
/-! ### words of this text: «dp» closes what data is, «xv» walks an expression, «xt» a test -/
local macro_rules | `(tactic| walk_at "dp5") => `(tactic| assumption)
local macro_rules | `(tactic| walk_at "dp4") => `(tactic| first
  | assumption
  | (refine Ext.dp (Fr.g (by assumption)) ?_; walk_at "dp5")
  | (refine Ext.dp (by assumption) ?_; walk_at "dp5"))
local macro_rules | `(tactic| walk_at "dp3") => `(tactic| first
  | assumption
  | (refine Ext.dp (Fr.g (by assumption)) ?_; walk_at "dp4")
  | (refine Ext.dp (by assumption) ?_; walk_at "dp4"))
local macro_rules | `(tactic| walk_at "dp2") => `(tactic| first
  | assumption
  | (refine Ext.dp (Fr.g (by assumption)) ?_; walk_at "dp3")
  | (refine Ext.dp (by assumption) ?_; walk_at "dp3"))
local macro_rules | `(tactic| walk_at "dp1") => `(tactic| first
  | assumption
  | (refine Ext.dp (Fr.g (by assumption)) ?_; walk_at "dp2")
  | (refine Ext.dp (by assumption) ?_; walk_at "dp2"))
local macro_rules | `(tactic| walk_at "dp") => `(tactic| first
  | assumption
  | exact Dp.int _ | exact Dp.str _ | exact Dp.bl _ | exact Dp.non
  | (refine Ext.dp (Fr.g (by assumption)) ?_; walk_at "dp1")
  | (refine Ext.dp (by assumption) ?_; walk_at "dp1"))
local macro_rules | `(tactic| walk_at "side") => `(tactic| first | assumption | decide | omega | (simp only [List.length_cons, List.length_nil]; omega) | (simp only [Int.natAbs]; omega))
local macro_rules | `(tactic| walk_at "xv") => `(tactic| first
  | ((with_reducible show EvD _ (Expr.Name _ _) _ _ _); walk_at "nm")
  | ((with_reducible show EvD _ (Expr.Constant _ _ _) _ _ _); first | exact ev_int | exact ev_str | exact ev_bl | exact ev_non)
  | ((with_reducible show EvD _ (Expr.BinOp _ .Add _ _) _ _ _); first | (apply ev_add; walk_at "xv"; walk_at "xv") | (apply ev_catS; walk_at "xv"; walk_at "xv"; walk_at "side"))
  | ((with_reducible show EvD _ (Expr.BinOp _ .Sub _ _) _ _ _); apply ev_sub; walk_at "xv"; walk_at "xv")
  | ((with_reducible show EvD _ (Expr.BinOp _ .Mod _ _) _ _ _); apply ev_mod; walk_at "xv"; walk_at "xv"; walk_at "side")
  | ((with_reducible show EvD _ (Expr.BinOp _ .FloorDiv _ _) _ _ _); apply ev_div; walk_at "xv"; walk_at "xv"; walk_at "side")
  | ((with_reducible show EvD _ (Expr.BinOp _ .Mult _ _) _ _ _); first | (apply ev_mulR; walk_at "xv"; walk_at "xv"; walk_at "side") | (apply ev_mulL; walk_at "xv"; walk_at "xv"; walk_at "side"))
  | ((with_reducible show EvD _ (Expr.Tuple _ _ _) _ _ _); apply ev_tup; walk_at "xa"; walk_at "side")
  | ((with_reducible show EvD _ (Expr.List _ _) _ _ _); apply ev_lst; walk_at "xa"; walk_at "side")
  | walk_at "xown")
local macro_rules | `(tactic| walk_at "xa") => `(tactic| first | exact ea_nil | (refine' ea_cons ?xa ?xb; (case xa => walk_at "xv"); (case xb => walk_at "xa")))
local macro_rules | `(tactic| walk_at "xt") => `(tactic| first
  | ((with_reducible show EvT _ (Expr.Compare _ [.Lt] _ _) _ _ _); refine' et_lt ?xa ?xb; (case xa => walk_at "xv"); (case xb => walk_at "xv"))
  | ((with_reducible show EvT _ (Expr.Compare _ [.LtE] _ _) _ _ _); refine' et_le ?xa ?xb; (case xa => walk_at "xv"); (case xb => walk_at "xv"))
  | ((with_reducible show EvT _ (Expr.Compare _ [.Gt] _ _) _ _ _); refine' et_gt ?xa ?xb; (case xa => walk_at "xv"); (case xb => walk_at "xv"))
  | ((with_reducible show EvT _ (Expr.Compare _ [.GtE] _ _) _ _ _); refine' et_ge ?xa ?xb; (case xa => walk_at "xv"); (case xb => walk_at "xv"))
  | ((with_reducible show EvT _ (Expr.Compare _ [.Eq] _ _) _ _ _); first | (refine' et_eqI ?xa ?xb; (case xa => walk_at "xv"); (case xb => walk_at "xv")) | (refine' et_eqS ?xa ?xb; (case xa => walk_at "xv"); (case xb => walk_at "xv")))
  | ((with_reducible show EvT _ (Expr.Compare _ [.NotEq] _ _) _ _ _); first | (refine' et_neI ?xa ?xb; (case xa => walk_at "xv"); (case xb => walk_at "xv")) | (refine' et_neS ?xa ?xb; (case xa => walk_at "xv"); (case xb => walk_at "xv")))
  | ((with_reducible show EvT _ (Expr.Compare _ [.Is] _ _) _ _ _); refine' et_isN ?xa ?xb; (case xa => walk_at "xv"); (case xb => walk_at "xv"))
  | ((with_reducible show EvT _ (Expr.Compare _ [.IsNot] _ _) _ _ _); refine' et_notN ?xa ?xb; (case xa => walk_at "xv"); (case xb => walk_at "xv"))
  | ((with_reducible show EvT _ (Expr.UnaryOp .Not _ _) _ _ _); apply et_not; walk_at "xt"))
abbrev dInts (ns : List Int) : PyData := .list (ns.map PyData.int)
section
variable {P : Program} {w : World} {K : PySem.W.Frag} {mg : Str → Option Value} {base : Heap}
/-! cell_at -/
local macro_rules | `(tactic| walk_at "nm") => `(tactic| first
  | ((with_reducible show EvD _ (Expr.Name "_law_script" _) _ _ _); refine' ev_name 0 ?r ?h; (case h => rfl); (case r => walk_at "dp"))
  | ((with_reducible show EvD _ (Expr.Name "_law_k" _) _ _ _); refine' ev_name 1 ?r ?h; (case h => rfl); (case r => walk_at "dp")))

def Rcell (ds : List PyData) (d : PyData) : Prop := ∃ (ns : List Int) (k : Nat), ds = [dInts ns, .int k] ∧ d = .int (ns.getD k 0)
theorem ok_cell (M : MF K mg) : FnOk P w K mg base CX0 1 M.a__law_cell_at M.d__law_cell_at ["_law_script", "_law_k"] (SpR K (fun _ => True) Rcell) := by
  refine M.F__law_cell_at.ok sc__law_cell_at (fun vs H Q E h => ?_) (fun cdv A outer s H vs Q E hr h => ?_)
  · obtain ⟨G, ds, d, _, _, r, _, ⟨ns, k, e, _⟩, _⟩ := h
    rw [all_len r, e]; rfl
  obtain ⟨G, ds, d, e0, t0, r, _, ⟨ns, k, rfl, rfl⟩, q⟩ := h
  obtain ⟨v1, v2, rfl, r1, r2⟩ := all2 r
  refine ⟨_, pss_b, ?_⟩
  refine bb_if0 (Hb := G) (et_cmp (by walk_at "nm") (ev_callB (ea_cons (by walk_at "nm") ea_nil) cd_lenL rfl M.z_len (by decide +kernel)) opd_lt) e0 t0 (fun c H2 e1 e2 t2 => ?_) (fun c H2 e1 e2 t2 => ?_)
  · refine bb_ret (Hb := G) (ev_ix (by walk_at "nm") (by walk_at "nm") (ix_l (d := .int (ns.getD k 0)) ?_)) e1 t2 ?_
    · have c' : k < ns.length := by have := of_decide_eq_true c; rw [List.length_map] at this; omega
      exact atI_nat (by rw [List.getElem?_map, List.getElem?_eq_getElem c', List.getD_eq_getElem?_getD, List.getElem?_eq_getElem c']; rfl)
    · intro v G2 H3 f r
      exact q v G2 H3 (f.pre e2) r
  · refine bb_ret (Hb := G) (d := .int (ns.getD k 0)) ?_ e1 t2 ?_
    · have c' : ¬ k < ns.length := by have := of_decide_eq_false c; rw [List.length_map] at this; omega
      rw [List.getD_eq_getElem?_getD, List.getElem?_eq_none (by omega)]
      exact ev_int
    · intro v G2 H3 f r
      exact q v G2 H3 (f.pre e2) r
/-! mixed -/
local macro_rules | `(tactic| walk_at "nm") => `(tactic| first
  | ((with_reducible show EvD _ (Expr.Name "_law_cell" _) _ _ _); refine' ev_name 0 ?r ?h; (case h => rfl); (case r => walk_at "dp"))
  | ((with_reducible show EvD _ (Expr.Name "_law_k" _) _ _ _); refine' ev_name 1 ?r ?h; (case h => rfl); (case r => walk_at "dp"))
  | ((with_reducible show EvD _ (Expr.Name "_law_number" _) _ _ _); refine' ev_name 2 ?r ?h; (case h => rfl); (case r => walk_at "dp")))

def mixed (c k : Int) : Int := ((c * 48271 + k * 7919 + 1) % 1000003) * (((c * 48271 + k * 7919 + 1) % 1000003) + 2 * k + 5) % 999983
theorem mixed_lt (c k : Int) : 0 ≤ mixed c k ∧ mixed c k < 999983 := ⟨Int.emod_nonneg _ (by decide), Int.emod_lt_of_pos _ (by decide)⟩
def Rmix (ds : List PyData) (d : PyData) : Prop := ∃ (c k : Int), ds = [.int c, .int k] ∧ d = .int (mixed c k)
theorem ok_mix (M : MF K mg) : FnOk P w K mg base CX0 1 M.a__law_mixed M.d__law_mixed ["_law_cell", "_law_k"] (SpR K (fun _ => True) Rmix) := by
  refine M.F__law_mixed.ok sc__law_mixed (fun vs H Q E h => ?_) (fun cdv A outer s H vs Q E hr h => ?_)
  · obtain ⟨G, ds, d, _, _, r, _, ⟨c, k, e, _⟩, _⟩ := h
    rw [all_len r, e]; rfl
  obtain ⟨G, ds, d, e0, t0, r, _, ⟨c, k, rfl, rfl⟩, q⟩ := h
  obtain ⟨v1, v2, rfl, r1, r2⟩ := all2 r
  have b1 := Int.emod_nonneg (c * 48271 + k * 7919 + 1) (show (1000003 : Int) ≠ 0 by decide)
  have b2 := Int.emod_lt_of_pos (c * 48271 + k * 7919 + 1) (show (0 : Int) < 1000003 by decide)
  refine ⟨_, pss_b, ?_⟩
  refine bb_val 2 sc__law_mixed.nd (Hb := G) (EvD.toInt (i := (c * 48271 + k * 7919 + 1) % 1000003) (by walk_at "xv")) e0 t0 (fun H2 e1 e2 t2 => ?_)
  refine bb_ret (Hb := G) (d := .int (mixed c k)) (ev_bin (ev_bin (by walk_at "xv") (by walk_at "xv") (opd_mulL (by omega))) (by walk_at "xv") (opd_mod (by decide))) e1 t2 ?_
  intro v G2 H3 f r
  exact q v G2 H3 (f.pre e2) r
/-! number -/
local macro_rules | `(tactic| walk_at "nm") => `(tactic| first
  | ((with_reducible show EvD _ (Expr.Name "thing" _) _ _ _); refine' ev_name 0 ?r ?h; (case h => rfl); (case r => walk_at "dp")))

def Rnum (ds : List PyData) (d : PyData) : Prop := ∃ x, ds = [x] ∧ d = .bool (isInt x)
theorem ok_num (M : MF K mg) : FnOk P w K mg base CX0 1 M.a_is_number M.d_is_number ["thing"] (SpR K (fun _ => True) Rnum) := by
  refine M.F_is_number.ok sc_is_number (fun vs H Q E h => ?_) (fun cdv A outer s H vs Q E hr h => ?_)
  · obtain ⟨G, ds, d, _, _, r, _, ⟨x, e, _⟩, _⟩ := h
    rw [all_len r, e]; rfl
  obtain ⟨G, ds, d, e0, t0, r, _, ⟨x, rfl, rfl⟩, q⟩ := h
  obtain ⟨v1, rfl, r1⟩ := all1 r
  refine ⟨_, pss_b, ?_⟩
  refine bb_ret (Hb := G) (d := .bool (isInt x)) (EvD.to (ev_and (ev_isi (by walk_at "nm") (kit_int x) M.z_isinstance M.z_int (by decide +kernel)) fun _ => ev_one (ev_not (ev_isi (by walk_at "nm") (kit_bool x) M.z_isinstance M.z_bool (by decide +kernel)))) (congrArg PyData.bool (isInt_eq x))) e0 t0 ?_
  intro v G2 H3 f r
  exact q v G2 H3 f r
local macro_rules | `(tactic| walk_at "nm") => `(tactic| first
  | ((with_reducible show EvD _ (Expr.Name "_law_found" _) _ _ _); refine' ev_name 0 ?r ?h; (case h => rfl); (case r => walk_at "dp")))

theorem ok_whole (M : MF K mg) : FnOk P w K mg base CX0 1 M.a__law_whole M.d__law_whole ["_law_found"] (SpR K (fun _ => True) Rnum) := by
  refine M.F__law_whole.ok sc__law_whole (fun vs H Q E h => ?_) (fun cdv A outer s H vs Q E hr h => ?_)
  · obtain ⟨G, ds, d, _, _, r, _, ⟨x, e, _⟩, _⟩ := h
    rw [all_len r, e]; rfl
  obtain ⟨G, ds, d, e0, t0, r, _, ⟨x, rfl, rfl⟩, q⟩ := h
  obtain ⟨v1, rfl, r1⟩ := all1 r
  refine ⟨_, pss_b, ?_⟩
  refine bb_ret (Hb := G) (d := .bool (isInt x)) (EvD.to (ev_and (ev_isi (by walk_at "nm") (kit_int x) M.z_isinstance M.z_int (by decide +kernel)) fun _ => ev_one (ev_not (ev_isi (by walk_at "nm") (kit_bool x) M.z_isinstance M.z_bool (by decide +kernel)))) (congrArg PyData.bool (isInt_eq x))) e0 t0 ?_
  intro v G2 H3 f r
  exact q v G2 H3 f r
/-! key -/
local macro_rules | `(tactic| walk_at "nm") => `(tactic| first
  | ((with_reducible show EvD _ (Expr.Name "thing" _) _ _ _); refine' ev_name 0 ?r ?h; (case h => rfl); (case r => walk_at "dp")))

def letter (c : Nat) : Bool := !decide ([c] < (Str.ofString "a").cps.toList) && !decide ((Str.ofString "z").cps.toList < [c])
def keyS (z : Str) : Bool := decide (1 ≤ (z.length : Int)) && decide ((z.length : Int) ≤ 8) && z.cps.toList.all letter
def keyF : PyData → Bool
  | .str z => keyS z
  | _ => false
def Tk (M : MF K mg) (H : Hp) : Prop := ∃ ps, H M.p_key = some (.tbl ps)
theorem Tk.mono {M : MF K mg} {H H' : Hp} (h : Tk M H) (e : Ext H H') : Tk M H' := by
  obtain ⟨ps, h⟩ := h
  exact e.tb _ _ h
def Rkey (ds : List PyData) (d : PyData) : Prop := ∃ x, ds = [x] ∧ (∀ z, x = .str z → z.length ≤ sizeLine) ∧ d = .bool (keyF x)
theorem ok_key (M : MF K mg) (TB : GxR.TabB base mg M.c_key M.p_key) : FnOk P w K mg base CX0 1 M.a_is_key M.d_is_key ["thing"] (SpR K (Tk M) Rkey) := by
  obtain ⟨oc, od, an, kV, doc, pm, ct, osl, fd, lk, hcd⟩ := M.x_key
  rw [fd] at lk ⊢
  refine fn_of lk hcd sc_is_key (fun vs H Q E h => ?_) (fun A outer s H vs Q E hr h => ?_)
  · obtain ⟨G, ds, d, _, _, r, _, ⟨x, e, _⟩, _⟩ := h
    rw [all_len r, e]; rfl
  obtain ⟨G, ds, d, e0, t0, r, T, ⟨x, rfl, hx, rfl⟩, q⟩ := h
  obtain ⟨v1, rfl, r1⟩ := all1 r
  suffices g : bB (cxOf CX0 P w K mg base ["thing"] "is_key" (defScope s_is_key) M.a_is_key (.ref M.c_key) A outer s H E).nox (defBody s_is_key) { nx := fun _ H' => Q .non H', rt := Q } (L2.start ["thing"] [v1]) H from ⟨_, PSs.nox pss_b, g⟩
  by_cases hs : isS x = true
  · obtain ⟨z, rfl⟩ : ∃ z, x = .str z := by cases x <;> simp [isS] at hs; exact ⟨_, rfl⟩
    refine bb_if0 (Hb := G) (et_w (ew_or (et_not (et_val (ev_isi (by walk_at "nm") (kit_str _) M.z_isinstance M.z_str (by decide +kernel)))) fun _ => ew_or1 (et_not (et_chain ev_int (ev_callB (ea_cons (by walk_at "nm") ea_nil) (cd_lenS (hx z rfl)) rfl M.z_len (by decide +kernel)) opd_le (fun _ => ev_int) fun _ => opd_le)))) e0 t0 (fun c H2 e1 e2 t2 => ?_) (fun c H2 e1 e2 t2 => ?_)
    · refine bb_ret (Hb := G) (d := .bool (keyF (.str z))) (EvD.to ev_bl ?_) e1 t2 (fun v G2 H3 f r => q v G2 H3 (f.pre e2) r)
      have c' : (decide (1 ≤ (z.length : Int)) && decide ((z.length : Int) ≤ 8)) = false := by revert c; simp only [isS, Bool.not_true, Bool.false_or, Bool.not_eq_true']; exact id
      show PyData.bool false = .bool (keyS z)
      unfold keyS
      rw [c']; rfl
    · refine bb_ret (Hb := G) (d := .bool (keyF (.str z))) (EvD.to (ev_allS (scope := _) hr M.z_all TB rfl ⟨rfl, rfl, by decide +kernel, rfl, rfl, fun y hy e => absurd e (by revert y; decide +kernel)⟩ (elt_between rfl rfl) T M.tk_key (by walk_at "nm")) ?_) e1 t2 (fun v G2 H3 f r => q v G2 H3 (f.pre e2) r)
      have c' : (decide (1 ≤ (z.length : Int)) && decide ((z.length : Int) ≤ 8)) = true := by revert c; simp only [isS, Bool.not_true, Bool.false_or, Bool.not_eq_false']; exact id
      show PyData.bool (z.cps.toList.all letter) = .bool (keyS z)
      unfold keyS
      rw [c']; rfl
  · have hs' : isS x = false := by simpa using hs
    refine bb_if0 (Hb := G) (k := true) (et_w (EvW.to (ew_or (k := !isS x) (l := false) (et_not (et_val (ev_isi (by walk_at "nm") (kit_str _) M.z_isinstance M.z_str (by decide +kernel)))) fun c => by rw [hs'] at c; cases c) (by rw [hs']; rfl))) e0 t0 (fun c H2 e1 e2 t2 => ?_) (fun c => nomatch c)
    refine bb_ret (Hb := G) (d := .bool (keyF x)) (EvD.to ev_bl ?_) e1 t2 (fun v G2 H3 f r => q v G2 H3 (f.pre e2) r)
    cases x <;> simp [isS] at hs' <;> rfl
end
section
variable {P : Program} {w : World} {K : PySem.W.Frag} {mg : Str → Option Value} {base : Heap}
/-! deed -/
def wordD : List PyData := [.str "put", .str "add", .str "once", .str "away"]
def isWord (d : PyData) : Bool := wordD.any fun z => PyData.eqv z d
def deed5 (a t w k v : PyData) : Bool := match a, t, v with
  | .int a, .int t, .int v => decide (0 ≤ a) && decide (a ≤ 9) && decide (1 ≤ t) && isWord w && keyF k && (match w with
    | .str w => !decide (w = "away") || decide (v = 0)
    | _ => false)
  | _, _, _ => false
def deedF : PyData → Bool
  | .tuple [a, t, w, k, v] => deed5 a t w k v
  | _ => false
theorem deed5_a {a t w k v : PyData} (h : isInt a = false) : deed5 a t w k v = false := by cases a <;> first | rfl | cases h
theorem deed5_t {a t w k v : PyData} (h : isInt t = false) : deed5 a t w k v = false := by cases a <;> cases t <;> first | rfl | cases h
theorem deed5_v {a t w k v : PyData} (h : isInt v = false) : deed5 a t w k v = false := by cases a <;> cases t <;> cases v <;> first | rfl | cases h
theorem isInt_of {x : PyData} (h : isInt x = true) : ∃ i, x = .int i := by cases x <;> first | exact ⟨_, rfl⟩ | cases h
theorem isWord_str {x : PyData} (h : isWord x = true) : ∃ z, x = .str z := by cases x <;> first | exact ⟨_, rfl⟩ | (simp [isWord, wordD, PyData.eqv] at h)
def Rdeed (ds : List PyData) (d : PyData) : Prop := ∃ x n, ds = [x] ∧ good n x = true ∧ n ≤ 60 ∧ d = .bool (deedF x)
theorem good_str {n : Nat} {x : PyData} (h : good n x = true) : ∀ z, x = .str z → z.length ≤ sizeLine := fun z e => by
  subst e
  unfold good okS at h
  rw [Bool.and_eq_true] at h
  have := of_decide_eq_true h.1
  exact line_of (by omega)
theorem wordD_all {H : Hp} : DpAll K H [.str "put", .str "add", .str "once", .str "away"] wordD := .cons (.str _) (.cons (.str _) (.cons (.str _) (.cons (.str _) .nil)))
local macro_rules | `(tactic| walk_at "nm") => `(tactic| first
  | ((with_reducible show EvD _ (Expr.Name "thing" _) _ _ _); refine' ev_name 0 ?r ?h; (case h => rfl); (case r => walk_at "dp"))
  | ((with_reducible show EvD _ (Expr.Name "asker" _) _ _ _); refine' ev_name 1 ?r ?h; (case h => rfl); (case r => walk_at "dp"))
  | ((with_reducible show EvD _ (Expr.Name "turn" _) _ _ _); refine' ev_name 2 ?r ?h; (case h => rfl); (case r => walk_at "dp"))
  | ((with_reducible show EvD _ (Expr.Name "word" _) _ _ _); refine' ev_name 3 ?r ?h; (case h => rfl); (case r => walk_at "dp"))
  | ((with_reducible show EvD _ (Expr.Name "key" _) _ _ _); refine' ev_name 4 ?r ?h; (case h => rfl); (case r => walk_at "dp"))
  | ((with_reducible show EvD _ (Expr.Name "value" _) _ _ _); refine' ev_name 5 ?r ?h; (case h => rfl); (case r => walk_at "dp")))

theorem ok_deed (M : MF K mg) (TB : GxR.TabB base mg M.c_key M.p_key) : FnOk P w K mg base CX0 2 M.a_is_deed M.d_is_deed ["thing"] (SpR K (Tk M) Rdeed) := by
  refine M.F_is_deed.ok sc_is_deed (fun vs H Q E h => ?_) (fun cdv A outer s H vs Q E hr h => ?_)
  · obtain ⟨G, ds, d, _, _, r, _, ⟨x, n, e, _⟩, _⟩ := h
    rw [all_len r, e]; rfl
  obtain ⟨G, ds, d, e0, t0, r, T, ⟨x, n, rfl, hgd, hn, rfl⟩, q⟩ := h
  obtain ⟨v1, rfl, r1⟩ := all1 r
  refine ⟨_, pss_b, ?_⟩
  have hu := hr.un
  by_cases hT : isT x = true
  · obtain ⟨es, rfl⟩ : ∃ es, x = .tuple es := by cases x <;> simp [isT] at hT; exact ⟨_, rfl⟩
    refine bb_if0 (Hb := G) (et_w (ew_or (et_not (et_val (ev_isi (by walk_at "nm") (kit_tuple _) M.z_isinstance M.z_tuple (by decide +kernel)))) fun _ => ew_or1 (et_neI (ev_lenT (by walk_at "nm") M.z_len) ev_int))) e0 t0 (fun c H2 e1 e2 t2 => ?_) (fun c H2 e1 e2 t2 => ?_)
    · refine bb_ret (Hb := G) (d := .bool (deedF (.tuple es))) (EvD.to ev_bl ?_) e1 t2 (fun v G2 H3 f r => q v G2 H3 (f.pre e2) r)
      have c' : ¬ (es.length : Int) = 5 := by simpa [isT] using c
      unfold deedF
      split
      · rename_i e; cases e; exact absurd rfl c'
      · rfl
    · have c' : (es.length : Int) = 5 := by simpa [isT] using c
      obtain ⟨xa, xt, xw, xk, xv, rfl⟩ : ∃ a b c d e, es = [a, b, c, d, e] := by
        match es, c' with
        | [a, b, c, d, e], _ => exact ⟨a, b, c, d, e, rfl⟩
        | [], h | [_], h | [_, _], h | [_, _, _], h | [_, _, _, _], h => simp at h
        | _ :: _ :: _ :: _ :: _ :: _ :: _, h => simp at h; omega
      have nd := sc_is_deed.nd
      refine bb_unp (Hb := G) (by walk_at "nm") e1 t2 (pgs_cons (pg_name (i := 1) nd rfl (Or.inl rfl)) (pgs_cons (pg_name (i := 2) nd rfl (Or.inl rfl)) (pgs_cons (pg_name (i := 3) nd rfl (Or.inl rfl)) (pgs_cons (pg_name (i := 4) nd rfl (Or.inl rfl)) (pgs_cons (pg_name (i := 5) nd rfl (Or.inl rfl)) pgs_nil))))) rfl (fun xs G2 H3 f r => ?_)
      obtain ⟨u1, u2, u3, u4, u5, rfl, q1, q2, q3, q4, q5⟩ := all5 r
      refine ⟨_, _, rfl, _, _, rfl, _, _, rfl, _, _, rfl, _, _, rfl, rfl, ?_⟩
      have f0 := f.pre e2
      have T2 := T.mono f.g
      have g1 : good (n - 1) xa = true ∧ good (n - 1) xt = true ∧ good (n - 1) xw = true ∧ good (n - 1) xk = true ∧ good (n - 1) xv = true := by
        cases n with
        | zero => simp [good] at hgd
        | succ n => simpa [good] using hgd
      obtain ⟨ga, gt, gw, gk, gv⟩ := g1
      have num : ∀ (e : Expr) (d : PyData) (σ : L2.St), EvD (cxOf CX0 P w K mg base ["thing", "asker", "turn", "word", "key", "value"] "is_deed" (defScope s_is_deed) M.a_is_deed cdv A outer s H E).nox e σ G2 d → True := fun _ _ _ _ => trivial
      -- from here on: all that is told is deed5
      have fin : ∀ (b : Bool) (H4 : Hp), b = deed5 xa xt xw xk xv → Ext G2 H4 → Ext H3 H4 → TabsOk K H4 → ∀ v G4 H5, Fr K G2 H4 G4 H5 → Dp K G4 v (.bool b) → Q v H5 := fun b H4 hb e3 e4 t4 v G4 H5 f4 r4 => q v G4 H5 (f0.trans (f4.pre e4)) (by show Dp K G4 v (.bool (deed5 xa xt xw xk xv)); rw [← hb]; exact r4)
      by_cases ha : isInt xa = true
      · obtain ⟨ia, rfl⟩ := isInt_of ha
        refine bb_if0 (Hb := G2) (et_w (ew_or (et_not (et_val (ev_call (ok_num M) (hr.mono (by decide)) rfl M.m_is_number M.F_is_number.kp M.b_is_number pass0 (ea_cons (by walk_at "nm") ea_nil) ⟨_, rfl, rfl⟩ fun _ _ => trivial))) fun _ => ew_or1 (et_not (et_chain ev_int (by walk_at "nm") opd_le (fun _ => ev_int) fun _ => opd_le)))) f.g2 f.tok (fun c H4 e3 e4 t4 => ?_) (fun c H4 e3 e4 t4 => ?_)
        · refine bb_ret (Hb := G2) (d := .bool false) ev_bl e3 t4 (fin false H4 ?_ e3 e4 t4)
          have c1 : (decide (0 ≤ ia) && decide (ia ≤ 9)) = false := by
            have c' : (!(decide (0 ≤ ia) && decide (ia ≤ 9))) = true := c
            revert c'; cases (decide (0 ≤ ia) && decide (ia ≤ 9)) <;> decide
          unfold deed5
          cases xt <;> cases xv <;> first | rfl | (simp only [c1, Bool.false_and])
        · have c1 : (decide (0 ≤ ia) && decide (ia ≤ 9)) = true := by simpa [isInt] using c
          by_cases ht : isInt xt = true
          · obtain ⟨it, rfl⟩ := isInt_of ht
            refine bb_if0 (Hb := G2) (et_w (ew_or (et_not (et_val (ev_call (ok_num M) (hr.mono (by decide)) rfl M.m_is_number M.F_is_number.kp M.b_is_number pass0 (ea_cons (by walk_at "nm") ea_nil) ⟨_, rfl, rfl⟩ fun _ _ => trivial))) fun _ => ew_or1 (et_lt (by walk_at "nm") ev_int))) e3 t4 (fun c H6 e5 e6 t6 => ?_) (fun c H6 e5 e6 t6 => ?_)
            · refine bb_ret (Hb := G2) (d := .bool false) ev_bl e5 t6 (fin false H6 ?_ e5 (e4.trans e6) t6)
              have c2 : decide (1 ≤ it) = false := decide_eq_false (by have : it < 1 := by simpa [isInt] using c
                                                                       omega)
              unfold deed5
              cases xv <;> first | rfl | (simp only [c1, c2, Bool.and_false, Bool.false_and])
            · have c2 : decide (1 ≤ it) = true := decide_eq_true (by have : ¬ it < 1 := by simpa [isInt] using c
                                                                     omega)
              refine bb_if0 (Hb := G2) (et_w (ew_or (et_notInT (ds := wordD) (by show (A.deeper _).units + 65 < cLine; omega) (by walk_at "nm") (ev_globT M.mc_WORDS M.t_WORDS fun H => wordD_all) (good_shaped gw (by omega)) (by decide +kernel)) fun _ => ew_or1 (et_not (et_val (ev_call (ok_key M TB) (hr.mono (by decide)) rfl M.m_is_key M.F_is_key.kp M.b_is_key pass0 (ea_cons (by walk_at "nm") ea_nil) ⟨_, rfl, good_str gk, rfl⟩ fun _ e => T2.mono e))))) e5 t6 (fun c H8 e7 e8 t8 => ?_) (fun c H8 e7 e8 t8 => ?_)
              · refine bb_ret (Hb := G2) (d := .bool false) ev_bl e7 t8 (fin false H8 ?_ e7 ((e4.trans e6).trans e8) t8)
                have c3 : (isWord xw && keyF xk) = false := by
                  have c' : (!isWord xw || !keyF xk) = true := c
                  revert c'; cases isWord xw <;> cases keyF xk <;> decide
                unfold deed5
                cases xv <;> first | rfl | (simp only [c1, c2, Bool.true_and, Bool.and_assoc]; rw [← Bool.and_assoc, c3]; rfl)
              · have c3 : isWord xw = true ∧ keyF xk = true := by
                  have c' : (!isWord xw || !keyF xk) = false := c
                  revert c'; cases isWord xw <;> cases keyF xk <;> decide
                obtain ⟨zw, rfl⟩ := isWord_str c3.1
                by_cases hv : isInt xv = true
                · obtain ⟨iv, rfl⟩ := isInt_of hv
                  refine bb_ret (Hb := G2) (ev_and (ev_call (ok_num M) (hr.mono (by decide)) rfl M.m_is_number M.F_is_number.kp M.b_is_number pass0 (ea_cons (by walk_at "nm") ea_nil) ⟨_, rfl, rfl⟩ fun _ _ => trivial) fun _ => ev_one (ev_or (ev_neS (by walk_at "nm") ev_str) fun _ => ev_one (ev_eqI (by walk_at "nm") ev_int))) e7 t8 (fin _ H8 ?_ e7 ((e4.trans e6).trans e8) t8)
                  unfold deed5
                  simp only [c1, c2, c3.1, c3.2, Bool.true_and, isInt]
                · have hv' : isInt xv = false := by simpa using hv
                  refine bb_ret (Hb := G2) (d := .bool (isInt xv && true)) (ev_and (ev_call (ok_num M) (hr.mono (by decide)) rfl M.m_is_number M.F_is_number.kp M.b_is_number pass0 (ea_cons (by walk_at "nm") ea_nil) ⟨_, rfl, rfl⟩ fun _ _ => trivial) fun h => by rw [hv'] at h; cases h) e7 t8 (fin _ H8 ?_ e7 ((e4.trans e6).trans e8) t8)
                  rw [deed5_v hv', hv']; rfl
          · have ht' : isInt xt = false := by simpa using ht
            refine bb_if0 (Hb := G2) (k := true) (et_w (EvW.to (ew_or (k := !isInt xt) (l := false) (et_not (et_val (ev_call (ok_num M) (hr.mono (by decide)) rfl M.m_is_number M.F_is_number.kp M.b_is_number pass0 (ea_cons (by walk_at "nm") ea_nil) ⟨_, rfl, rfl⟩ fun _ _ => trivial))) fun h => by rw [ht'] at h; cases h) (by rw [ht']; rfl))) e3 t4 (fun c H6 e5 e6 t6 => ?_) (fun c => nomatch c)
            exact bb_ret (Hb := G2) (d := .bool false) ev_bl e5 t6 (fin false H6 (deed5_t ht').symm e5 (e4.trans e6) t6)
      · have ha' : isInt xa = false := by simpa using ha
        refine bb_if0 (Hb := G2) (k := true) (et_w (EvW.to (ew_or (k := !isInt xa) (l := false) (et_not (et_val (ev_call (ok_num M) (hr.mono (by decide)) rfl M.m_is_number M.F_is_number.kp M.b_is_number pass0 (ea_cons (by walk_at "nm") ea_nil) ⟨_, rfl, rfl⟩ fun _ _ => trivial))) fun h => by rw [ha'] at h; cases h) (by rw [ha']; rfl))) f.g2 f.tok (fun c H6 e5 e6 t6 => ?_) (fun c => nomatch c)
        exact bb_ret (Hb := G2) (d := .bool false) ev_bl e5 t6 (fin false H6 (deed5_a ha').symm e5 e6 t6)
  · have hT' : isT x = false := by simpa using hT
    refine bb_if0 (Hb := G) (k := true) (et_w (EvW.to (ew_or (k := !isT x) (l := false) (et_not (et_val (ev_isi (by walk_at "nm") (kit_tuple _) M.z_isinstance M.z_tuple (by decide +kernel)))) fun c => by rw [hT'] at c; cases c) (by rw [hT']; rfl))) e0 t0 (fun c H2 e1 e2 t2 => ?_) (fun c => nomatch c)
    refine bb_ret (Hb := G) (d := .bool (deedF x)) (EvD.to ev_bl ?_) e1 t2 (fun v G2 H3 f r => q v G2 H3 (f.pre e2) r)
    cases x <;> simp [isT] at hT' <;> rfl
end
section
variable {P : Program} {w : World} {K : PySem.W.Frag} {mg : Str → Option Value} {base : Heap}
/-! the law's own look -/
def abc : Str := "abcdefghijklmnopqrstuvwxyz"
theorem count_abc : ∀ c < 128, decide (Txt.count abc ⟨#[c]⟩ = 1) = letter c := by decide +kernel
def Rkd (ds : List PyData) (d : PyData) : Prop := ∃ x n, ds = [x] ∧ good n x = true ∧ d = .bool (keyF x)
theorem mem_lt {z : Str} (h : okS z = true) {c : Nat} (hc : c ∈ z.cps.toList) : c < 128 := by
  unfold okS at h
  rw [Bool.and_eq_true] at h
  exact of_decide_eq_true (List.all_eq_true.mp h.2 c hc)
theorem good_okS {n : Nat} {z : Str} (h : good n (.str z) = true) : okS z = true := by unfold good at h; exact h
theorem okS_len {z : Str} (h : okS z = true) : z.length ≤ 1000 := by
  unfold okS at h
  rw [Bool.and_eq_true] at h
  exact of_decide_eq_true h.1
theorem take_all {l : List Nat} {j : Nat} {c : Nat} {f : Nat → Bool} (h : l[j]? = some c) (p : (l.take j).all f = true) (q : f c = true) : (l.take (j + 1)).all f = true := by
  rw [List.take_add_one, h, List.all_append, p]
  simp [q]
local macro_rules | `(tactic| walk_at "nm") => `(tactic| first
  | ((with_reducible show EvD _ (Expr.Name "_law_thing" _) _ _ _); refine' ev_name 0 ?r ?h; (case h => rfl); (case r => walk_at "dp"))
  | ((with_reducible show EvD _ (Expr.Name "_law_sign" _) _ _ _); refine' ev_name 1 ?r ?h; (case h => rfl); (case r => walk_at "dp")))

theorem ok_keydue (M : MF K mg) : FnOk P w K mg base CX0 1 M.a__law_key_due M.d__law_key_due ["_law_thing"] (SpR K (fun _ => True) Rkd) := by
  refine M.F__law_key_due.ok sc__law_key_due (fun vs H Q E h => ?_) (fun cdv A outer s H vs Q E hr h => ?_)
  · obtain ⟨G, ds, d, _, _, r, _, ⟨x, n, e, _⟩, _⟩ := h
    rw [all_len r, e]; rfl
  obtain ⟨G, ds, d, e0, t0, r, _, ⟨x, n, rfl, hg, rfl⟩, q⟩ := h
  obtain ⟨v1, rfl, r1⟩ := all1 r
  refine ⟨_, pss_b, ?_⟩
  by_cases hs : isS x = true
  · obtain ⟨z, rfl⟩ : ∃ z, x = .str z := by cases x <;> simp [isS] at hs; exact ⟨_, rfl⟩
    have ok := good_okS hg
    have hl := okS_len ok
    refine bb_if0 (Hb := G) (et_w (ew_or (et_not (et_val (ev_isi (by walk_at "nm") (kit_str _) M.z_isinstance M.z_str (by decide +kernel)))) fun _ => ew_or (et_eqI (ev_lenS (by walk_at "nm") M.z_len (line_of (by omega))) ev_int) fun _ => ew_or1 (et_gt (ev_lenS (by walk_at "nm") M.z_len (line_of (by omega))) ev_int))) e0 t0 (fun c H2 e1 e2 t2 => ?_) (fun c H2 e1 e2 t2 => ?_)
    · refine bb_ret (Hb := G) (d := .bool (keyF (.str z))) (EvD.to ev_bl ?_) e1 t2 (fun v G2 H3 f r => q v G2 H3 (f.pre e2) r)
      have c' : (z.length : Int) = 0 ∨ 8 < (z.length : Int) := by simpa [isS] using c
      show PyData.bool false = .bool (keyS z)
      unfold keyS
      rcases c' with c' | c'
      · rw [decide_eq_false (show ¬ 1 ≤ (z.length : Int) by omega)]; rfl
      · rw [decide_eq_false (show ¬ (z.length : Int) ≤ 8 by omega), Bool.and_false]; rfl
    · have c' : ¬ (z.length : Int) = 0 ∧ ¬ 8 < (z.length : Int) := by
        have c0 : (decide ((z.length : Int) = 0) || decide (8 < (z.length : Int))) = false := c
        rw [Bool.or_eq_false_iff] at c0
        exact ⟨of_decide_eq_false c0.1, of_decide_eq_false c0.2⟩
      have ks : keyS z = z.cps.toList.all letter := by
        unfold keyS
        rw [decide_eq_true (show 1 ≤ (z.length : Int) by omega), decide_eq_true (show (z.length : Int) ≤ 8 by omega)]; rfl
      refine bb_forS (Hb := G) 1 sc__law_key_due.nd (fun j σ' H' => (∃ o, σ' = [some v1, o]) ∧ Ext G H' ∧ Ext H2 H' ∧ TabsOk K H' ∧ (z.cps.toList.take j).all letter = true) (by walk_at "nm") e1 t2 (fun H3 e3 e4 t4 => ⟨⟨_, rfl⟩, e3, e4, t4, by simp⟩) (fun j c σ' H' hj p => ?_) (fun σ' H' p => ?_) PassesOwn.never
      · obtain ⟨⟨o, rfl⟩, p1, p2, p3, p4⟩ := p
        have hc := mem_lt ok (List.mem_of_getElem? hj)
        refine bb_if0 (Hb := G) (k := !letter c) (EvT.to (et_neI (ev_bm (T := "str") PySem.F.plainAttrs_str PySem.F.slot_str_count PySem.F.type_str_count ev_str (ea_cons (by walk_at "nm") ea_nil) (fun _ x h => by cases h; rfl) (d := .int (Txt.count abc ⟨#[c]⟩)) (fun G H1 _ E t x vs hx hv Q q => ?_)) ev_int) ?_) p1 p3 (fun c2 H4 e5 e6 t6 => ?_) (fun c2 H4 e5 e6 t6 => ?_)
        · obtain ⟨u, rfl, hu⟩ := all1 hv
          cases hx
          cases hu
          exact MtR.b mt_count ⟨_, _, rfl, rfl, q _ G H1 (Fr.refl E t) (.int _)⟩
        · rw [count_abc c hc]
        · refine bb_ret (Hb := G) (d := .bool (keyF (.str z))) (EvD.to ev_bl ?_) e5 t6 (fun v G2 H3 f r => q v G2 H3 (f.pre ((e2.trans p2).trans e6)) r)
          show PyData.bool false = .bool (keyS z)
          rw [ks]
          have : z.cps.toList.all letter = false := List.all_eq_false.mpr ⟨c, List.mem_of_getElem? hj, by simpa using c2⟩
          rw [this]
        · exact bb_nil ⟨⟨_, rfl⟩, e5, p2.trans e6, t6, take_all hj p4 (by simpa using c2)⟩
      · obtain ⟨⟨o, rfl⟩, p1, p2, p3, p4⟩ := p
        refine bb_ret (Hb := G) (d := .bool (keyF (.str z))) (EvD.to ev_bl ?_) p1 p3 (fun v G2 H3 f r => q v G2 H3 (f.pre (e2.trans p2)) r)
        show PyData.bool true = .bool (keyS z)
        rw [List.take_length] at p4
        rw [ks, p4]
  · have hs' : isS x = false := by simpa using hs
    refine bb_if0 (Hb := G) (k := true) (et_w (EvW.to (ew_or (k := !isS x) (l := false) (et_not (et_val (ev_isi (by walk_at "nm") (kit_str _) M.z_isinstance M.z_str (by decide +kernel)))) fun c => by rw [hs'] at c; cases c) (by rw [hs']; rfl))) e0 t0 (fun c H2 e1 e2 t2 => ?_) (fun c => nomatch c)
    refine bb_ret (Hb := G) (d := .bool (keyF x)) (EvD.to ev_bl ?_) e1 t2 (fun v G2 H3 f r => q v G2 H3 (f.pre e2) r)
    cases x <;> simp [isS] at hs' <;> rfl
end
end Pf

namespace Pf
open PySem L2 C
/-! ### words of this text: «dp» closes what data is, «xv» walks an expression, «xt» a test -/
local macro_rules | `(tactic| walk_at "dp5") => `(tactic| assumption)
local macro_rules | `(tactic| walk_at "dp4") => `(tactic| first
  | assumption
  | (refine Ext.dp (Fr.g (by assumption)) ?_; walk_at "dp5")
  | (refine Ext.dp (by assumption) ?_; walk_at "dp5"))
local macro_rules | `(tactic| walk_at "dp3") => `(tactic| first
  | assumption
  | (refine Ext.dp (Fr.g (by assumption)) ?_; walk_at "dp4")
  | (refine Ext.dp (by assumption) ?_; walk_at "dp4"))
local macro_rules | `(tactic| walk_at "dp2") => `(tactic| first
  | assumption
  | (refine Ext.dp (Fr.g (by assumption)) ?_; walk_at "dp3")
  | (refine Ext.dp (by assumption) ?_; walk_at "dp3"))
local macro_rules | `(tactic| walk_at "dp1") => `(tactic| first
  | assumption
  | (refine Ext.dp (Fr.g (by assumption)) ?_; walk_at "dp2")
  | (refine Ext.dp (by assumption) ?_; walk_at "dp2"))
local macro_rules | `(tactic| walk_at "dp") => `(tactic| first
  | assumption
  | exact Dp.int _ | exact Dp.str _ | exact Dp.bl _ | exact Dp.non
  | (refine Ext.dp (Fr.g (by assumption)) ?_; walk_at "dp1")
  | (refine Ext.dp (by assumption) ?_; walk_at "dp1"))
local macro_rules | `(tactic| walk_at "side") => `(tactic| first | assumption | decide | omega | (simp only [List.length_cons, List.length_nil]; omega) | (simp only [Int.natAbs]; omega))
local macro_rules | `(tactic| walk_at "xv") => `(tactic| first
  | ((with_reducible show EvD _ (Expr.Name _ _) _ _ _); walk_at "nm")
  | ((with_reducible show EvD _ (Expr.Constant _ _ _) _ _ _); first | exact ev_int | exact ev_str | exact ev_bl | exact ev_non)
  | ((with_reducible show EvD _ (Expr.BinOp _ .Add _ _) _ _ _); first | (apply ev_add; walk_at "xv"; walk_at "xv") | (apply ev_catS; walk_at "xv"; walk_at "xv"; walk_at "side"))
  | ((with_reducible show EvD _ (Expr.BinOp _ .Sub _ _) _ _ _); apply ev_sub; walk_at "xv"; walk_at "xv")
  | ((with_reducible show EvD _ (Expr.BinOp _ .Mod _ _) _ _ _); apply ev_mod; walk_at "xv"; walk_at "xv"; walk_at "side")
  | ((with_reducible show EvD _ (Expr.BinOp _ .FloorDiv _ _) _ _ _); apply ev_div; walk_at "xv"; walk_at "xv"; walk_at "side")
  | ((with_reducible show EvD _ (Expr.BinOp _ .Mult _ _) _ _ _); first | (apply ev_mulR; walk_at "xv"; walk_at "xv"; walk_at "side") | (apply ev_mulL; walk_at "xv"; walk_at "xv"; walk_at "side"))
  | ((with_reducible show EvD _ (Expr.Tuple _ _ _) _ _ _); apply ev_tup; walk_at "xa"; walk_at "side")
  | ((with_reducible show EvD _ (Expr.List _ _) _ _ _); apply ev_lst; walk_at "xa"; walk_at "side")
  | walk_at "xown")
local macro_rules | `(tactic| walk_at "xa") => `(tactic| first | exact ea_nil | (refine' ea_cons ?xa ?xb; (case xa => walk_at "xv"); (case xb => walk_at "xa")))
local macro_rules | `(tactic| walk_at "xt") => `(tactic| first
  | ((with_reducible show EvT _ (Expr.Compare _ [.Lt] _ _) _ _ _); refine' et_lt ?xa ?xb; (case xa => walk_at "xv"); (case xb => walk_at "xv"))
  | ((with_reducible show EvT _ (Expr.Compare _ [.LtE] _ _) _ _ _); refine' et_le ?xa ?xb; (case xa => walk_at "xv"); (case xb => walk_at "xv"))
  | ((with_reducible show EvT _ (Expr.Compare _ [.Gt] _ _) _ _ _); refine' et_gt ?xa ?xb; (case xa => walk_at "xv"); (case xb => walk_at "xv"))
  | ((with_reducible show EvT _ (Expr.Compare _ [.GtE] _ _) _ _ _); refine' et_ge ?xa ?xb; (case xa => walk_at "xv"); (case xb => walk_at "xv"))
  | ((with_reducible show EvT _ (Expr.Compare _ [.Eq] _ _) _ _ _); first | (refine' et_eqI ?xa ?xb; (case xa => walk_at "xv"); (case xb => walk_at "xv")) | (refine' et_eqS ?xa ?xb; (case xa => walk_at "xv"); (case xb => walk_at "xv")))
  | ((with_reducible show EvT _ (Expr.Compare _ [.NotEq] _ _) _ _ _); first | (refine' et_neI ?xa ?xb; (case xa => walk_at "xv"); (case xb => walk_at "xv")) | (refine' et_neS ?xa ?xb; (case xa => walk_at "xv"); (case xb => walk_at "xv")))
  | ((with_reducible show EvT _ (Expr.Compare _ [.Is] _ _) _ _ _); refine' et_isN ?xa ?xb; (case xa => walk_at "xv"); (case xb => walk_at "xv"))
  | ((with_reducible show EvT _ (Expr.Compare _ [.IsNot] _ _) _ _ _); refine' et_notN ?xa ?xb; (case xa => walk_at "xv"); (case xb => walk_at "xv"))
  | ((with_reducible show EvT _ (Expr.UnaryOp .Not _ _) _ _ _); apply et_not; walk_at "xt"))
section
variable {P : Program} {w : World} {K : PySem.W.Frag} {mg : Str → Option Value} {base : Heap}
/-! the text -/
def signs : Str := " !\"#$&'()*+,-./0123456789:;<=>?@ABCDEFGHIJKLMNOPQRSTUVWXYZ[\\]^_`{|}~\t\n"
theorem signs_ok : okS signs = true := by decide +kernel
theorem abc_ok : okS abc = true := by decide +kernel
theorem abc_len : abc.cps.toList.length = 26 := by decide +kernel
theorem okS_app {x : Str} {c : Nat} (h : okS x = true) (hl : x.length ≤ 900) (hc : c < 128) : okS (x ++ ⟨#[c]⟩) = true ∧ (x ++ (⟨#[c]⟩ : Str)).length = x.length + 1 := by
  have e : (x ++ (⟨#[c]⟩ : Str)).cps.toList = x.cps.toList ++ [c] := by
    show (x.cps ++ #[c]).toList = _
    simp
  have l : (x ++ (⟨#[c]⟩ : Str)).length = x.length + 1 := by
    show (x.cps ++ #[c]).size = x.cps.size + 1
    simp
  refine ⟨?_, l⟩
  unfold okS at h ⊢
  rw [Bool.and_eq_true] at h ⊢
  refine ⟨decide_eq_true (by omega), ?_⟩
  rw [e, List.all_append, h.2]
  simp [hc]
theorem str_len (x : Str) : x.cps.toList.length = x.length := by simp [Str.length]
def Rtext (ds : List PyData) (d : PyData) : Prop := ∃ ns, ds = [dInts ns] ∧ ∃ z, okS z = true ∧ z.length ≤ 10 ∧ d = .str z
local macro_rules | `(tactic| walk_at "nm") => `(tactic| first
  | ((with_reducible show EvD _ (Expr.Name "_law_script" _) _ _ _); refine' ev_name 0 ?r ?h; (case h => rfl); (case r => walk_at "dp"))
  | ((with_reducible show EvD _ (Expr.Name "_law_signs" _) _ _ _); refine' ev_name 1 ?r ?h; (case h => rfl); (case r => walk_at "dp"))
  | ((with_reducible show EvD _ (Expr.Name "_law_text_here" _) _ _ _); refine' ev_name 2 ?r ?h; (case h => rfl); (case r => walk_at "dp"))
  | ((with_reducible show EvD _ (Expr.Name "_law_k" _) _ _ _); refine' ev_name 3 ?r ?h; (case h => rfl); (case r => walk_at "dp"))
  | ((with_reducible show EvD _ (Expr.Name "_law_number" _) _ _ _); refine' ev_name 4 ?r ?h; (case h => rfl); (case r => walk_at "dp")))

theorem ok_text (M : MF K mg) : FnOk P w K mg base CX0 2 M.a__law_text M.d__law_text ["_law_script"] (SpE K (fun _ => True) Rtext) := by
  refine M.F__law_text.ok sc__law_text (fun vs H Q E h => ?_) (fun cdv A outer s H vs Q E hr h => ?_)
  · obtain ⟨G, ds, _, _, r, _, ⟨d, ns, e, _⟩, _⟩ := h
    rw [all_len r, e]; rfl
  obtain ⟨G, ds, e0, t0, r, _, ⟨d0, ns, rfl, _⟩, q⟩ := h
  obtain ⟨v1, rfl, r1⟩ := all1 r
  refine ⟨_, pss_b, ?_⟩
  have nd := sc__law_text.nd
  refine bb_val 1 nd (Hb := G) (EvD.toStr (i := signs) ev_str) e0 t0 (fun H2 e1 e2 t2 => ?_)
  refine bb_val 2 nd (Hb := G) (EvD.toStr (i := "") ev_str) e1 t2 (fun H3 e3 e4 t3 => ?_)
  have b0 := Int.emod_nonneg (ns.getD 0 0) (show (11 : Int) ≠ 0 by decide)
  have b1 := Int.emod_lt_of_pos (ns.getD 0 0) (show (0 : Int) < 11 by decide)
  refine bb_forR (Hb := G) 3 nd (fun j σ' H' => (∃ z o1 o2, σ' = [some v1, some (.str signs), some (.str z), o1, o2] ∧ okS z = true ∧ z.length = j) ∧ Ext G H' ∧ Ext H H' ∧ TabsOk K H') (ev_mod (ev_call (ok_cell M) (hr.mono (by decide)) rfl M.m__law_cell_at M.F__law_cell_at.kp M.b__law_cell_at pass0 (ea_cons (by walk_at "nm") (ea_cons ev_int ea_nil)) ⟨_, _, rfl, rfl⟩ fun _ _ => trivial) ev_int (by decide)) e3 t3 (by omega) (fun H4 e5 e6 t5 => ⟨⟨"", _, _, rfl, by decide +kernel, by decide +kernel⟩, e5, (e2.trans e4).trans e6, t5⟩) (fun j σ' H' hj p => ?_) (fun σ' H' p => ?_) PassesOwn.never M.z_range
  · obtain ⟨⟨z, o1, o2, rfl, p1, p2⟩, p3, p4, p5⟩ := p
    have mb := mixed_lt (ns.getD 1 0) j
    refine bb_val 4 nd (Hb := G) (EvD.toInt (i := mixed (ns.getD 1 0) j) (ev_call (ok_mix M) (hr.mono (by decide)) rfl M.m__law_mixed M.F__law_mixed.kp M.b__law_mixed pass0 (ea_cons (ev_call (ok_cell M) (hr.mono (by decide)) rfl M.m__law_cell_at M.F__law_cell_at.kp M.b__law_cell_at pass0 (ea_cons (by walk_at "nm") (ea_cons ev_int ea_nil)) ⟨_, _, rfl, rfl⟩ fun _ _ => trivial) (ea_cons (by walk_at "nm") ea_nil)) ⟨_, _, rfl, rfl⟩ fun _ _ => trivial)) p3 p5 (fun H5 e7 e8 t7 => ?_)
    generalize mixed (ns.getD 1 0) (j : Int) = m at *
    refine bb_if (Hb := G) (et_w (ew_and (et_eqI (by walk_at "xv") ev_int) fun _ => ew_and1 (et_eqI (ev_mod (ev_call (ok_cell M) (hr.mono (by decide)) rfl M.m__law_cell_at M.F__law_cell_at.kp M.b__law_cell_at pass0 (ea_cons (by walk_at "nm") (ea_cons ev_int ea_nil)) ⟨_, _, rfl, rfl⟩ fun _ _ => trivial) ev_int (by decide)) ev_int))) e7 t7 (fun c H6 e9 e10 t9 => ?_) (fun c H6 e9 e10 t9 => ?_)
    · have i0 := Int.emod_nonneg (m / 9) (show (signs.length : Int) ≠ 0 by decide +kernel)
      have i1 := Int.emod_lt_of_pos (m / 9) (show (0 : Int) < (signs.length : Int) by decide +kernel)
      obtain ⟨c, h1, h2⟩ := atI_in (xs := signs.cps.toList) i0 (by rw [str_len]; exact i1)
      have h3 := mem_lt signs_ok h2
      have ap := okS_app p1 (by omega) h3
      refine bb_val 2 nd (Hb := G) (EvD.toStr (i := z ++ ⟨#[c]⟩) (ev_catS (by walk_at "nm") (ev_ixS (x := signs) (by walk_at "nm") (ev_mod (by walk_at "xv") (ev_lenS (x := signs) (by walk_at "nm") M.z_len (by decide +kernel)) (by decide +kernel)) (by decide +kernel) h1) (by have : (⟨#[c]⟩ : Str).length = 1 := rfl; omega))) e9 t9 (fun H7 e11 e12 t11 => ?_)
      exact bb_nil (bb_nil ⟨⟨_, _, _, rfl, ap.1, by omega⟩, e11, ((p4.trans e8).trans e10).trans e12, t11⟩)
    · have i0 := Int.emod_nonneg (m / 9) (show (26 : Int) ≠ 0 by decide)
      have i1 := Int.emod_lt_of_pos (m / 9) (show (0 : Int) < 26 by decide)
      obtain ⟨c, h1, h2⟩ := atI_in (xs := abc.cps.toList) i0 (by rw [abc_len]; exact i1)
      have h3 := mem_lt abc_ok h2
      have ap := okS_app p1 (by omega) h3
      refine bb_val 2 nd (Hb := G) (EvD.toStr (i := z ++ ⟨#[c]⟩) (ev_catS (by walk_at "nm") (ev_ixS (x := abc) ev_str (by walk_at "xv") (by decide +kernel) h1) (by have : (⟨#[c]⟩ : Str).length = 1 := rfl; omega))) e9 t9 (fun H7 e11 e12 t11 => ?_)
      exact bb_nil (bb_nil ⟨⟨_, _, _, rfl, ap.1, by omega⟩, e11, ((p4.trans e8).trans e10).trans e12, t11⟩)
  · obtain ⟨⟨z, o1, o2, rfl, p1, p2⟩, p3, p4, p5⟩ := p
    exact bb_ret (Hb := G) (d := .str z) (by walk_at "nm") p3 p5 (fun v G2 H3 f r => q _ v G2 H3 ⟨ns, rfl, z, p1, by omega, rfl⟩ (f.pre p4) r)
/-! truth -/
def Rtruth (ds : List PyData) (d : PyData) : Prop := ∃ a b, ds = [.bool a, .bool b] ∧ d = .bool (a == b)
local macro_rules | `(tactic| walk_at "nm") => `(tactic| first
  | ((with_reducible show EvD _ (Expr.Name "_law_found" _) _ _ _); refine' ev_name 0 ?r ?h; (case h => rfl); (case r => walk_at "dp"))
  | ((with_reducible show EvD _ (Expr.Name "_law_due" _) _ _ _); refine' ev_name 1 ?r ?h; (case h => rfl); (case r => walk_at "dp")))

theorem ok_truth (M : MF K mg) : FnOk P w K mg base CX0 1 M.a__law_truth M.d__law_truth ["_law_found", "_law_due"] (SpR K (fun _ => True) Rtruth) := by
  refine M.F__law_truth.ok sc__law_truth (fun vs H Q E h => ?_) (fun cdv A outer s H vs Q E hr h => ?_)
  · obtain ⟨G, ds, d, _, _, r, _, ⟨a, b, e, _⟩, _⟩ := h
    rw [all_len r, e]; rfl
  obtain ⟨G, ds, d, e0, t0, r, _, ⟨a, b, rfl, rfl⟩, q⟩ := h
  obtain ⟨v1, v2, rfl, r1, r2⟩ := all2 r
  refine ⟨_, pss_b, ?_⟩
  exact bb_ret (Hb := G) (d := .bool (a == b)) (EvD.to (ev_and (ev_isi (by walk_at "nm") (kit_bool _) M.z_isinstance M.z_bool (by decide +kernel)) fun _ => ev_one (ev_eqB (by walk_at "nm") (by walk_at "nm"))) (by simp [isB])) e0 t0 q
end
end Pf

namespace Pf
open PySem L2 C
/-! ### words of this text: «dp» closes what data is, «xv» walks an expression, «xt» a test -/
local macro_rules | `(tactic| walk_at "dp5") => `(tactic| assumption)
local macro_rules | `(tactic| walk_at "dp4") => `(tactic| first
  | assumption
  | (refine Ext.dp (Fr.g (by assumption)) ?_; walk_at "dp5")
  | (refine Ext.dp (by assumption) ?_; walk_at "dp5"))
local macro_rules | `(tactic| walk_at "dp3") => `(tactic| first
  | assumption
  | (refine Ext.dp (Fr.g (by assumption)) ?_; walk_at "dp4")
  | (refine Ext.dp (by assumption) ?_; walk_at "dp4"))
local macro_rules | `(tactic| walk_at "dp2") => `(tactic| first
  | assumption
  | (refine Ext.dp (Fr.g (by assumption)) ?_; walk_at "dp3")
  | (refine Ext.dp (by assumption) ?_; walk_at "dp3"))
local macro_rules | `(tactic| walk_at "dp1") => `(tactic| first
  | assumption
  | (refine Ext.dp (Fr.g (by assumption)) ?_; walk_at "dp2")
  | (refine Ext.dp (by assumption) ?_; walk_at "dp2"))
local macro_rules | `(tactic| walk_at "dp") => `(tactic| first
  | assumption
  | exact Dp.int _ | exact Dp.str _ | exact Dp.bl _ | exact Dp.non
  | (refine Ext.dp (Fr.g (by assumption)) ?_; walk_at "dp1")
  | (refine Ext.dp (by assumption) ?_; walk_at "dp1"))
local macro_rules | `(tactic| walk_at "side") => `(tactic| first | assumption | decide | omega | (simp only [List.length_cons, List.length_nil]; omega) | (simp only [Int.natAbs]; omega))
local macro_rules | `(tactic| walk_at "xv") => `(tactic| first
  | ((with_reducible show EvD _ (Expr.Name _ _) _ _ _); walk_at "nm")
  | ((with_reducible show EvD _ (Expr.Constant _ _ _) _ _ _); first | exact ev_int | exact ev_str | exact ev_bl | exact ev_non)
  | ((with_reducible show EvD _ (Expr.BinOp _ .Add _ _) _ _ _); first | (apply ev_add; walk_at "xv"; walk_at "xv") | (apply ev_catS; walk_at "xv"; walk_at "xv"; walk_at "side"))
  | ((with_reducible show EvD _ (Expr.BinOp _ .Sub _ _) _ _ _); apply ev_sub; walk_at "xv"; walk_at "xv")
  | ((with_reducible show EvD _ (Expr.BinOp _ .Mod _ _) _ _ _); apply ev_mod; walk_at "xv"; walk_at "xv"; walk_at "side")
  | ((with_reducible show EvD _ (Expr.BinOp _ .FloorDiv _ _) _ _ _); apply ev_div; walk_at "xv"; walk_at "xv"; walk_at "side")
  | ((with_reducible show EvD _ (Expr.BinOp _ .Mult _ _) _ _ _); first | (apply ev_mulR; walk_at "xv"; walk_at "xv"; walk_at "side") | (apply ev_mulL; walk_at "xv"; walk_at "xv"; walk_at "side"))
  | ((with_reducible show EvD _ (Expr.Tuple _ _ _) _ _ _); apply ev_tup; walk_at "xa"; walk_at "side")
  | ((with_reducible show EvD _ (Expr.List _ _) _ _ _); apply ev_lst; walk_at "xa"; walk_at "side")
  | walk_at "xown")
local macro_rules | `(tactic| walk_at "xa") => `(tactic| first | exact ea_nil | (refine' ea_cons ?xa ?xb; (case xa => walk_at "xv"); (case xb => walk_at "xa")))
local macro_rules | `(tactic| walk_at "xt") => `(tactic| first
  | ((with_reducible show EvT _ (Expr.Compare _ [.Lt] _ _) _ _ _); refine' et_lt ?xa ?xb; (case xa => walk_at "xv"); (case xb => walk_at "xv"))
  | ((with_reducible show EvT _ (Expr.Compare _ [.LtE] _ _) _ _ _); refine' et_le ?xa ?xb; (case xa => walk_at "xv"); (case xb => walk_at "xv"))
  | ((with_reducible show EvT _ (Expr.Compare _ [.Gt] _ _) _ _ _); refine' et_gt ?xa ?xb; (case xa => walk_at "xv"); (case xb => walk_at "xv"))
  | ((with_reducible show EvT _ (Expr.Compare _ [.GtE] _ _) _ _ _); refine' et_ge ?xa ?xb; (case xa => walk_at "xv"); (case xb => walk_at "xv"))
  | ((with_reducible show EvT _ (Expr.Compare _ [.Eq] _ _) _ _ _); first | (refine' et_eqI ?xa ?xb; (case xa => walk_at "xv"); (case xb => walk_at "xv")) | (refine' et_eqS ?xa ?xb; (case xa => walk_at "xv"); (case xb => walk_at "xv")))
  | ((with_reducible show EvT _ (Expr.Compare _ [.NotEq] _ _) _ _ _); first | (refine' et_neI ?xa ?xb; (case xa => walk_at "xv"); (case xb => walk_at "xv")) | (refine' et_neS ?xa ?xb; (case xa => walk_at "xv"); (case xb => walk_at "xv")))
  | ((with_reducible show EvT _ (Expr.Compare _ [.Is] _ _) _ _ _); refine' et_isN ?xa ?xb; (case xa => walk_at "xv"); (case xb => walk_at "xv"))
  | ((with_reducible show EvT _ (Expr.Compare _ [.IsNot] _ _) _ _ _); refine' et_notN ?xa ?xb; (case xa => walk_at "xv"); (case xb => walk_at "xv"))
  | ((with_reducible show EvT _ (Expr.UnaryOp .Not _ _) _ _ _); apply et_not; walk_at "xt"))
section
variable {P : Program} {w : World} {K : PySem.W.Frag} {mg : Str → Option Value} {base : Heap}
/-! one of the five things put otherwise -/
def Rput (ds : List PyData) (d : PyData) : Prop := ∃ es n z, ds = [.tuple es, .int n, .str z] ∧ (es.length = 5 ∧ es.all (good 2) = true ∧ okS z = true) ∧ ∃ es', es'.length = 5 ∧ es'.all (good 2) = true ∧ d = .tuple es'
local macro_rules | `(tactic| walk_at "nm") => `(tactic| first
  | ((with_reducible show EvD _ (Expr.Name "_law_deed" _) _ _ _); refine' ev_name 0 ?r ?h; (case h => rfl); (case r => walk_at "dp"))
  | ((with_reducible show EvD _ (Expr.Name "_law_number" _) _ _ _); refine' ev_name 1 ?r ?h; (case h => rfl); (case r => walk_at "dp"))
  | ((with_reducible show EvD _ (Expr.Name "_law_text_here" _) _ _ _); refine' ev_name 2 ?r ?h; (case h => rfl); (case r => walk_at "dp"))
  | ((with_reducible show EvD _ (Expr.Name "_law_at" _) _ _ _); refine' ev_name 3 ?r ?h; (case h => rfl); (case r => walk_at "dp"))
  | ((with_reducible show EvD _ (Expr.Name "_law_many" _) _ _ _); refine' ev_name 4 ?r ?h; (case h => rfl); (case r => walk_at "dp"))
  | ((with_reducible show EvD _ (Expr.Name "_law_some" _) _ _ _); refine' ev_name 5 ?r ?h; (case h => rfl); (case r => walk_at "dp")))

theorem ok_put (M : MF K mg) : FnOk P w K mg base CX0 1 M.a__law_put M.d__law_put ["_law_deed", "_law_number", "_law_text_here"] (SpE K (fun _ => True) Rput) := by
  refine M.F__law_put.ok sc__law_put (fun vs H Q E h => ?_) (fun cdv A outer s H vs Q E hr h => ?_)
  · obtain ⟨G, ds, _, _, r, _, ⟨d, es, n, z, e, _⟩, _⟩ := h
    rw [all_len r, e]; rfl
  obtain ⟨G, ds, e0, t0, r, _, ⟨d0, es, n, z, rfl, ⟨hl, hg, hz⟩, _⟩, q⟩ := h
  obtain ⟨v1, v2, v3, rfl, r1, r2, r3⟩ := all3 r
  cases dp_int r2
  cases dp_str r3
  refine ⟨_, pss_b, ?_⟩
  have nd := sc__law_put.nd
  obtain ⟨at_, hat⟩ := Int.eq_ofNat_of_zero_le (Int.emod_nonneg n (show (5 : Int) ≠ 0 by decide))
  have hat5 := Int.emod_lt_of_pos n (show (0 : Int) < 5 by decide)
  refine bb_val 3 nd (Hb := G) (EvD.toInt (i := (at_ : Int)) (by rw [← hat]; walk_at "xv")) e0 t0 (fun H2 e1 e2 t2 => ?_)
  refine bb_val 4 nd (Hb := G) (EvD.toInt (i := n / 5 % 10 ^ 6) (ev_mod (by walk_at "xv") (ev_pow (n := 6) ev_int ev_int (by decide) (by decide)) (by decide))) e1 t2 (fun H3 e3 e4 t4 => ?_)
  generalize n / 5 % 10 ^ 6 = m
  refine bb_ev 5 nd (Hb := G) (ek_lst (ds := [.int (0 - m), .int m, .int (10 + m % 9), .bool true, .bool false, .none, .str "", .str "put", .str z, .list [], .tuple [], .list [.int m], .int 0, .int 9, .int (-1), .int 1])
    (ea_cons (by walk_at "xv") (ea_cons (by walk_at "xv") (ea_cons (by walk_at "xv") (ea_cons ev_bl (ea_cons ev_bl (ea_cons ev_non (ea_cons ev_str (ea_cons ev_str (ea_cons (by walk_at "xv") (ea_cons (ev_lst ea_nil (by decide)) (ea_cons (ev_tup ea_nil (by decide)) (ea_cons (ev_lst (ea_cons (by walk_at "xv") ea_nil) (by show 1 ≤ 100000; decide)) (ea_cons ev_int (ea_cons ev_int (ea_cons (ev_neg ev_int) (ea_cons ev_int ea_nil)))))))))))))))) (by show 16 ≤ 100000; decide)) e3 t4 (fun v G2 H5 f hk => ?_)
  obtain ⟨ad, xs, rfl, h1, h2⟩ := hk
  refine bb_ev 5 nd (Hb := G2) (ek_cat (ek_var 5 h1 h2 rfl) (ek_lst (ds := [.str "Put", .str "adds", .str "onc", .str "away ", .str "away", .str "putadd", .str "pu"]) (by walk_at "xa") (by decide)) (by show 16 + 7 ≤ 100000; decide)) f.g2 f.tok (fun v G3 H6 f2 hk => ?_)
  obtain ⟨ad2, xs2, rfl, h3, h4⟩ := hk
  have gs : ∀ x ∈ ([.int (0 - m), .int m, .int (10 + m % 9), .bool true, .bool false, .none, .str "", .str "put", .str z, .list [], .tuple [], .list [.int m], .int 0, .int 9, .int (-1), .int 1] ++ [.str "Put", .str "adds", .str "onc", .str "away ", .str "away", .str "putadd", .str "pu"] : List PyData), good 2 x = true := by
    intro x hx
    simp only [List.cons_append, List.nil_append, List.mem_cons, List.not_mem_nil, or_false] at hx
    rcases hx with h | h | h | h | h | h | h | h | h | h | h | h | h | h | h | h | h | h | h | h | h | h | h <;> subst h <;> first | rfl | (show okS z = true; exact hz) | decide +kernel
  have i0 := Int.emod_nonneg (n / 35) (show (23 : Int) ≠ 0 by decide)
  have i1 := Int.emod_lt_of_pos (n / 35) (show (0 : Int) < 23 by decide)
  obtain ⟨it, hi1, hi2⟩ := atI_in (xs := ([.int (0 - m), .int m, .int (10 + m % 9), .bool true, .bool false, .none, .str "", .str "put", .str z, .list [], .tuple [], .list [.int m], .int 0, .int 9, .int (-1), .int 1] ++ [.str "Put", .str "adds", .str "onc", .str "away ", .str "away", .str "putadd", .str "pu"] : List PyData)) i0 (by show _ < ((23 : Nat) : Int); omega)
  have git := gs it hi2
  generalize ([.int (0 - m), .int m, .int (10 + m % 9), .bool true, .bool false, .none, .str "", .str "put", .str z, .list [], .tuple [], .list [.int m], .int 0, .int 9, .int (-1), .int 1] ++ [.str "Put", .str "adds", .str "onc", .str "away ", .str "away", .str "putadd", .str "pu"] : List PyData) = some_ at *
  refine bb_ret (Hb := G3) (d := .tuple (es.take at_ ++ [it] ++ es.drop (at_ + 1))) (ev_catT (ev_catT (ev_slTt (n := at_) (by walk_at "nm") (by walk_at "nm")) (ev_tup (ea_cons (ev_ixL (ek_var 5 h3 h4 rfl).dat (by walk_at "xv") hi1) ea_nil) (by show 1 ≤ 100000; decide)) ?_) (ev_slTf (n := at_ + 1) (by walk_at "nm") (EvD.to (d := .int ((at_ : Int) + 1)) (by walk_at "xv") (by rw [Int.natCast_add]; rfl))) ?_) f2.g2 f2.tok (fun v G4 H7 f3 r => ?_)
  · rw [List.length_take]; show _ + 1 ≤ _; omega
  · rw [List.length_append, List.length_take, List.length_drop]; show _ + 1 + _ ≤ _; omega
  · refine q _ v G4 H7 ⟨es, n, z, rfl, ⟨hl, hg, hz⟩, _, ?_, ?_, rfl⟩ (((f.pre (e2.trans e4)).trans f2).trans f3) r
    · rw [List.length_append, List.length_append, List.length_take, List.length_drop]; show _ + 1 + _ = _; omega
    · rw [List.all_append, List.all_append]
      have a1 : (es.take at_).all (good 2) = true := List.all_eq_true.mpr fun x hx => List.all_eq_true.mp hg x (List.mem_of_mem_take hx)
      have a2 : (es.drop (at_ + 1)).all (good 2) = true := List.all_eq_true.mpr fun x hx => List.all_eq_true.mp hg x (List.mem_of_mem_drop hx)
      rw [a1, a2]
      simp [git]
/-! what the law says of a deed -/
def Rdd (ds : List PyData) (d : PyData) : Prop := ∃ x n, ds = [x] ∧ good n x = true ∧ d = .bool (deedF x)
def at3 (l : List PyData) (j : Nat) : PyData := match j with
  | 0 => l.getD 0 .none
  | 1 => l.getD 1 .none
  | _ => l.getD 4 .none
local macro_rules | `(tactic| walk_at "nm") => `(tactic| first
  | ((with_reducible show EvD _ (Expr.Name "_law_deed" _) _ _ _); refine' ev_name 0 ?r ?h; (case h => rfl); (case r => walk_at "dp"))
  | ((with_reducible show EvD _ (Expr.Name "_law_k" _) _ _ _); refine' ev_name 1 ?r ?h; (case h => rfl); (case r => walk_at "dp")))

theorem ok_deeddue (M : MF K mg) : FnOk P w K mg base CX0 2 M.a__law_deed_due M.d__law_deed_due ["_law_deed"] (SpR K (fun _ => True) Rdd) := by
  refine M.F__law_deed_due.ok sc__law_deed_due (fun vs H Q E h => ?_) (fun cdv A outer s H vs Q E hr h => ?_)
  · obtain ⟨G, ds, d, _, _, r, _, ⟨x, n, e, _⟩, _⟩ := h
    rw [all_len r, e]; rfl
  obtain ⟨G, ds, d, e0, t0, r, _, ⟨x, n, rfl, hg, rfl⟩, q⟩ := h
  obtain ⟨v1, rfl, r1⟩ := all1 r
  refine ⟨_, pss_b, ?_⟩
  have nd := sc__law_deed_due.nd
  by_cases hT : isT x = true
  · obtain ⟨es, rfl⟩ : ∃ es, x = .tuple es := by cases x <;> simp [isT] at hT; exact ⟨_, rfl⟩
    refine bb_if0 (Hb := G) (et_w (ew_or (et_not (et_val (ev_isi (by walk_at "nm") (kit_tuple _) M.z_isinstance M.z_tuple (by decide +kernel)))) fun _ => ew_or1 (et_neI (ev_lenT (by walk_at "nm") M.z_len) ev_int))) e0 t0 (fun c H2 e1 e2 t2 => ?_) (fun c H2 e1 e2 t2 => ?_)
    · refine bb_ret (Hb := G) (d := .bool (deedF (.tuple es))) (EvD.to ev_bl ?_) e1 t2 (fun v G2 H3 f r => q v G2 H3 (f.pre e2) r)
      have c' : ¬ (es.length : Int) = 5 := by simpa [isT] using c
      unfold deedF
      split
      · rename_i e; cases e; exact absurd rfl c'
      · rfl
    · have c' : (es.length : Int) = 5 := by simpa [isT] using c
      obtain ⟨xa, xt, xw, xk, xv, rfl⟩ : ∃ a b c d e, es = [a, b, c, d, e] := by
        match es, c' with
        | [a, b, c, d, e], _ => exact ⟨a, b, c, d, e, rfl⟩
        | [], h | [_], h | [_, _], h | [_, _, _], h | [_, _, _, _], h => simp at h
        | _ :: _ :: _ :: _ :: _ :: _ :: _, h => simp at h; omega
      have g1 : good (n - 1) xa = true ∧ good (n - 1) xt = true ∧ good (n - 1) xw = true ∧ good (n - 1) xk = true ∧ good (n - 1) xv = true := by
        cases n with
        | zero => simp [good] at hg
        | succ n => simpa [good] using hg
      obtain ⟨ga, gt, gw, gk, gv⟩ := g1
      -- all that is told is deed5
      have fin : ∀ (b : Bool) (H4 : Hp), b = deed5 xa xt xw xk xv → Ext H2 H4 → ∀ v G4 H5, Fr K G H4 G4 H5 → Dp K G4 v (.bool b) → Q v H5 := fun b H4 hb e4 v G4 H5 f4 r4 => q v G4 H5 (f4.pre (e2.trans e4)) (by show Dp K G4 v (.bool (deed5 xa xt xw xk xv)); rw [← hb]; exact r4)
      refine bb_forT (Hb := G) 1 nd (ds := [.int 0, .int 1, .int 4]) (by walk_at "xv") e1 t2 (fun ad xs G2 H3 f hs hr3 => ?_) PassesOwn.never
      obtain ⟨w1, w2, w3, rfl, k1, k2, k3⟩ := all3 hr3
      cases dp_int k1; cases dp_int k2; cases dp_int k3
      refine ⟨fun j σ' H' => (∃ o, σ' = [some v1, o]) ∧ Ext G2 H' ∧ Ext H2 H' ∧ TabsOk K H' ∧ (∀ i, i < j → isInt (at3 [xa, xt, xw, xk, xv] i) = true), ⟨⟨_, rfl⟩, f.g2, f.h, f.tok, fun i hi => absurd hi (Nat.not_lt_zero _)⟩, fun j σ' H' hj p => p.2.1.t hs, fun j x σ' H' hj p => ?_, fun σ' H' p => ?_⟩
      · obtain ⟨⟨o, rfl⟩, p1, p2, p3, p4⟩ := p
        obtain ⟨kk, hk, hd⟩ : ∃ kk : Int, x = .int kk ∧ atI [xa, xt, xw, xk, xv] kk = some (at3 [xa, xt, xw, xk, xv] j) := by
          match j, hj with
          | 0, h => cases h; exact ⟨0, rfl, rfl⟩
          | 1, h => cases h; exact ⟨1, rfl, rfl⟩
          | 2, h => cases h; exact ⟨4, rfl, rfl⟩
          | n + 3, h => simp at h
        subst hk
        refine bb_if0 (Hb := G) (k := !isInt (at3 [xa, xt, xw, xk, xv] j)) (et_not (et_val (ev_call (ok_whole M) (hr.mono (by decide)) rfl M.m__law_whole M.F__law_whole.kp M.b__law_whole pass0 (ea_cons (ev_ixT (by walk_at "nm") (by walk_at "nm") hd) ea_nil) ⟨_, rfl, rfl⟩ fun _ _ => trivial))) (f.g.trans p1) p3 (fun c H4 e5 e6 t6 => ?_) (fun c H4 e5 e6 t6 => ?_)
        · refine bb_ret (Hb := G) (d := .bool false) ev_bl e5 t6 (fin false H4 ?_ (p2.trans e6))
          have c2 : isInt (at3 [xa, xt, xw, xk, xv] j) = false := by simpa using c
          match j, c2 with
          | 0, h => exact (deed5_a h).symm
          | 1, h => exact (deed5_t h).symm
          | n + 2, h => exact (deed5_v h).symm
        · refine bb_nil ⟨⟨_, rfl⟩, p1.trans e6, p2.trans e6, t6, fun i hi => ?_⟩
          by_cases hij : i < j
          · exact p4 i hij
          · have : i = j := by omega
            subst this
            simpa using c
      · obtain ⟨⟨o, rfl⟩, p1, p2, p3, p4⟩ := p
        obtain ⟨ia, rfl⟩ := isInt_of (p4 0 (by show 0 < 3; decide))
        obtain ⟨it, rfl⟩ := isInt_of (p4 1 (by show 1 < 3; decide))
        obtain ⟨iv, rfl⟩ := isInt_of (p4 2 (by show 2 < 3; decide))
        refine bb_if0 (Hb := G) (et_w (ew_or (et_notInR (ev_ixT (by walk_at "nm") ev_int rfl) ev_int M.z_range) fun _ => ew_or (et_lt (ev_ixT (by walk_at "nm") ev_int rfl) ev_int) fun _ => ew_or1 (et_not (et_val (ev_call (ok_keydue M) (hr.mono (by decide)) rfl M.m__law_key_due M.F__law_key_due.kp M.b__law_key_due pass0 (ea_cons (ev_ixT (by walk_at "nm") ev_int rfl) ea_nil) ⟨_, _, rfl, gk, rfl⟩ fun _ _ => trivial))))) (f.g.trans p1) p3 (fun c H4 e5 e6 t6 => ?_) (fun c H4 e5 e6 t6 => ?_)
        · refine bb_ret (Hb := G) (d := .bool false) ev_bl e5 t6 (fin false H4 ?_ (p2.trans e6))
          have c2 : ¬ (0 ≤ ia ∧ ia < 10) ∨ it < 1 ∨ keyF xk = false := by
            have c0 : (!decide (0 ≤ ia ∧ ia < 10) || (decide (it < 1) || !keyF xk)) = true := c
            rw [Bool.or_eq_true, Bool.or_eq_true] at c0
            rcases c0 with a | a | a
            · exact .inl (by simpa only [Bool.not_eq_true', decide_eq_false_iff_not] using a)
            · exact .inr (.inl (of_decide_eq_true a))
            · exact .inr (.inr (by simpa only [Bool.not_eq_true'] using a))
          unfold deed5
          rcases c2 with c2 | c2 | c2
          · have : (decide (0 ≤ ia) && decide (ia ≤ 9)) = false := by
              rw [Bool.and_eq_false_iff]
              by_cases h0 : 0 ≤ ia
              · exact .inr (decide_eq_false (by omega))
              · exact .inl (decide_eq_false h0)
            simp only [this, Bool.false_and]
          · simp only [decide_eq_false (show ¬ 1 ≤ it by omega), Bool.and_false, Bool.false_and]
          · simp only [c2, Bool.and_false, Bool.false_and]
        · have c2 : (0 ≤ ia ∧ ia < 10) ∧ 1 ≤ it ∧ keyF xk = true := by
            have : (!decide (0 ≤ ia ∧ ia < 10) || (decide (it < 1) || !keyF xk)) = false := c
            rw [Bool.or_eq_false_iff, Bool.or_eq_false_iff] at this
            obtain ⟨a, b, c⟩ := this
            exact ⟨by simpa using a, by have := of_decide_eq_false b; omega, by simpa using c⟩
          obtain ⟨⟨c3, c4⟩, c5, c6⟩ := c2
          have d5 : ∀ xw, deed5 (.int ia) (.int it) xw xk (.int iv) = (isWord xw && (match xw with
            | .str w => !decide (w = "away") || decide (iv = 0)
            | _ => false)) := fun xw => by
            unfold deed5
            simp only [decide_eq_true c3, decide_eq_true (show ia ≤ 9 by omega), decide_eq_true c5, c6, Bool.true_and, Bool.and_true]
            all_goals (cases xw <;> rfl)
          by_cases hw : isS xw = true
          · obtain ⟨zw, rfl⟩ : ∃ z, xw = .str z := by cases xw <;> simp [isS] at hw; exact ⟨_, rfl⟩
            refine bb_if0 (Hb := G) (k := !isS (.str zw)) (et_not (et_val (ev_isi (ev_ixT (by walk_at "nm") ev_int rfl) (kit_str _) M.z_isinstance M.z_str (by decide +kernel)))) e5 t6 (fun c => absurd (show false = true from c) Bool.false_ne_true) (fun c H6 e7 e8 t8 => ?_)
            refine bb_ret (Hb := G) (ev_or (ev_eqS (ev_ixT (by walk_at "nm") ev_int rfl) ev_str) fun _ => ev_or (ev_eqS (ev_ixT (by walk_at "nm") ev_int rfl) ev_str) fun _ => ev_or (ev_eqS (ev_ixT (by walk_at "nm") ev_int rfl) ev_str) fun _ => ev_one (ev_and (ev_eqS (ev_ixT (by walk_at "nm") ev_int rfl) ev_str) fun _ => ev_one (ev_eqI (ev_ixT (by walk_at "nm") ev_int rfl) ev_int))) e7 t8 (fin _ H6 ?_ (p2.trans (e6.trans e8)))
            rw [d5]
            simp only [isWord, wordD, List.any_cons, List.any_nil, PyData.eqv, Bool.or_false]
            have sw : ∀ a : Str, (a == zw) = decide (zw = a) := fun a => by rw [Bool.beq_eq_decide_eq]; simp [eq_comm]
            rw [sw, sw, sw, sw]
            by_cases hz1 : zw = "away"
            · subst hz1
              rw [decide_eq_false (show ¬ ("away" : Str) = "put" by decide), decide_eq_false (show ¬ ("away" : Str) = "add" by decide), decide_eq_false (show ¬ ("away" : Str) = "once" by decide), decide_eq_true rfl]
              cases decide (iv = 0) <;> rfl
            · rw [decide_eq_false hz1]
              cases decide (zw = "put") <;> cases decide (zw = "add") <;> cases decide (zw = "once") <;> rfl
          · have hw' : isS xw = false := by simpa using hw
            refine bb_if0 (Hb := G) (k := !isS xw) (et_not (et_val (ev_isi (ev_ixT (by walk_at "nm") ev_int rfl) (kit_str _) M.z_isinstance M.z_str (by decide +kernel)))) e5 t6 (fun c H6 e7 e8 t8 => ?_) (fun c => by rw [hw'] at c; cases c)
            refine bb_ret (Hb := G) (d := .bool false) ev_bl e7 t8 (fin false H6 ?_ (p2.trans (e6.trans e8)))
            rw [d5]
            cases xw <;> first | (simp [isS] at hw'; done) | simp
  · have hT' : isT x = false := by simpa using hT
    refine bb_if0 (Hb := G) (k := true) (et_w (EvW.to (ew_or (k := !isT x) (l := false) (et_not (et_val (ev_isi (by walk_at "nm") (kit_tuple _) M.z_isinstance M.z_tuple (by decide +kernel)))) fun c => by rw [hT'] at c; cases c) (by rw [hT']; rfl))) e0 t0 (fun c H2 e1 e2 t2 => ?_) (fun c => nomatch c)
    refine bb_ret (Hb := G) (d := .bool (deedF x)) (EvD.to ev_bl ?_) e1 t2 (fun v G2 H3 f r => q v G2 H3 (f.pre e2) r)
    cases x <;> simp [isT] at hT' <;> rfl
end
end Pf

namespace Pf
open PySem L2 C
/-! ### words of this text: «dp» closes what data is, «xv» walks an expression, «xt» a test -/
local macro_rules | `(tactic| walk_at "dp5") => `(tactic| assumption)
local macro_rules | `(tactic| walk_at "dp4") => `(tactic| first
  | assumption
  | (refine Ext.dp (Fr.g (by assumption)) ?_; walk_at "dp5")
  | (refine Ext.dp (by assumption) ?_; walk_at "dp5"))
local macro_rules | `(tactic| walk_at "dp3") => `(tactic| first
  | assumption
  | (refine Ext.dp (Fr.g (by assumption)) ?_; walk_at "dp4")
  | (refine Ext.dp (by assumption) ?_; walk_at "dp4"))
local macro_rules | `(tactic| walk_at "dp2") => `(tactic| first
  | assumption
  | (refine Ext.dp (Fr.g (by assumption)) ?_; walk_at "dp3")
  | (refine Ext.dp (by assumption) ?_; walk_at "dp3"))
local macro_rules | `(tactic| walk_at "dp1") => `(tactic| first
  | assumption
  | (refine Ext.dp (Fr.g (by assumption)) ?_; walk_at "dp2")
  | (refine Ext.dp (by assumption) ?_; walk_at "dp2"))
local macro_rules | `(tactic| walk_at "dp") => `(tactic| first
  | assumption
  | exact Dp.int _ | exact Dp.str _ | exact Dp.bl _ | exact Dp.non
  | (refine Ext.dp (Fr.g (by assumption)) ?_; walk_at "dp1")
  | (refine Ext.dp (by assumption) ?_; walk_at "dp1"))
local macro_rules | `(tactic| walk_at "side") => `(tactic| first | assumption | decide | omega | (simp only [List.length_cons, List.length_nil]; omega) | (simp only [Int.natAbs]; omega))
local macro_rules | `(tactic| walk_at "xv") => `(tactic| first
  | ((with_reducible show EvD _ (Expr.Name _ _) _ _ _); walk_at "nm")
  | ((with_reducible show EvD _ (Expr.Constant _ _ _) _ _ _); first | exact ev_int | exact ev_str | exact ev_bl | exact ev_non)
  | ((with_reducible show EvD _ (Expr.BinOp _ .Add _ _) _ _ _); first | (apply ev_add; walk_at "xv"; walk_at "xv") | (apply ev_catS; walk_at "xv"; walk_at "xv"; walk_at "side"))
  | ((with_reducible show EvD _ (Expr.BinOp _ .Sub _ _) _ _ _); apply ev_sub; walk_at "xv"; walk_at "xv")
  | ((with_reducible show EvD _ (Expr.BinOp _ .Mod _ _) _ _ _); apply ev_mod; walk_at "xv"; walk_at "xv"; walk_at "side")
  | ((with_reducible show EvD _ (Expr.BinOp _ .FloorDiv _ _) _ _ _); apply ev_div; walk_at "xv"; walk_at "xv"; walk_at "side")
  | ((with_reducible show EvD _ (Expr.BinOp _ .Mult _ _) _ _ _); first | (apply ev_mulR; walk_at "xv"; walk_at "xv"; walk_at "side") | (apply ev_mulL; walk_at "xv"; walk_at "xv"; walk_at "side"))
  | ((with_reducible show EvD _ (Expr.Tuple _ _ _) _ _ _); apply ev_tup; walk_at "xa"; walk_at "side")
  | ((with_reducible show EvD _ (Expr.List _ _) _ _ _); apply ev_lst; walk_at "xa"; walk_at "side")
  | walk_at "xown")
local macro_rules | `(tactic| walk_at "xa") => `(tactic| first | exact ea_nil | (refine' ea_cons ?xa ?xb; (case xa => walk_at "xv"); (case xb => walk_at "xa")))
local macro_rules | `(tactic| walk_at "xt") => `(tactic| first
  | ((with_reducible show EvT _ (Expr.Compare _ [.Lt] _ _) _ _ _); refine' et_lt ?xa ?xb; (case xa => walk_at "xv"); (case xb => walk_at "xv"))
  | ((with_reducible show EvT _ (Expr.Compare _ [.LtE] _ _) _ _ _); refine' et_le ?xa ?xb; (case xa => walk_at "xv"); (case xb => walk_at "xv"))
  | ((with_reducible show EvT _ (Expr.Compare _ [.Gt] _ _) _ _ _); refine' et_gt ?xa ?xb; (case xa => walk_at "xv"); (case xb => walk_at "xv"))
  | ((with_reducible show EvT _ (Expr.Compare _ [.GtE] _ _) _ _ _); refine' et_ge ?xa ?xb; (case xa => walk_at "xv"); (case xb => walk_at "xv"))
  | ((with_reducible show EvT _ (Expr.Compare _ [.Eq] _ _) _ _ _); first | (refine' et_eqI ?xa ?xb; (case xa => walk_at "xv"); (case xb => walk_at "xv")) | (refine' et_eqS ?xa ?xb; (case xa => walk_at "xv"); (case xb => walk_at "xv")))
  | ((with_reducible show EvT _ (Expr.Compare _ [.NotEq] _ _) _ _ _); first | (refine' et_neI ?xa ?xb; (case xa => walk_at "xv"); (case xb => walk_at "xv")) | (refine' et_neS ?xa ?xb; (case xa => walk_at "xv"); (case xb => walk_at "xv")))
  | ((with_reducible show EvT _ (Expr.Compare _ [.Is] _ _) _ _ _); refine' et_isN ?xa ?xb; (case xa => walk_at "xv"); (case xb => walk_at "xv"))
  | ((with_reducible show EvT _ (Expr.Compare _ [.IsNot] _ _) _ _ _); refine' et_notN ?xa ?xb; (case xa => walk_at "xv"); (case xb => walk_at "xv"))
  | ((with_reducible show EvT _ (Expr.UnaryOp .Not _ _) _ _ _); apply et_not; walk_at "xt"))
section
variable {P : Program} {w : World} {K : PySem.W.Frag} {mg : Str → Option Value} {base : Heap}
/-! the law -/
def Rlaw (ds : List PyData) (d : PyData) : Prop := ∃ ns : List Int, ds = [dInts ns] ∧ d = .bool true
local macro_rules | `(tactic| walk_at "nm") => `(tactic| first
  | ((with_reducible show EvD _ (Expr.Name "_law_script" _) _ _ _); refine' ev_name 0 ?r ?h; (case h => rfl); (case r => walk_at "dp"))
  | ((with_reducible show EvD _ (Expr.Name "_law_text_here" _) _ _ _); refine' ev_name 1 ?r ?h; (case h => rfl); (case r => walk_at "dp"))
  | ((with_reducible show EvD _ (Expr.Name "_law_first" _) _ _ _); refine' ev_name 2 ?r ?h; (case h => rfl); (case r => walk_at "dp"))
  | ((with_reducible show EvD _ (Expr.Name "_law_word" _) _ _ _); refine' ev_name 3 ?r ?h; (case h => rfl); (case r => walk_at "dp"))
  | ((with_reducible show EvD _ (Expr.Name "_law_value" _) _ _ _); refine' ev_name 4 ?r ?h; (case h => rfl); (case r => walk_at "dp"))
  | ((with_reducible show EvD _ (Expr.Name "_law_key" _) _ _ _); refine' ev_name 5 ?r ?h; (case h => rfl); (case r => walk_at "dp"))
  | ((with_reducible show EvD _ (Expr.Name "_law_deed" _) _ _ _); refine' ev_name 6 ?r ?h; (case h => rfl); (case r => walk_at "dp"))
  | ((with_reducible show EvD _ (Expr.Name "_law_ways" _) _ _ _); refine' ev_name 7 ?r ?h; (case h => rfl); (case r => walk_at "dp"))
  | ((with_reducible show EvD _ (Expr.Name "_law_shape" _) _ _ _); refine' ev_name 8 ?r ?h; (case h => rfl); (case r => walk_at "dp"))
  | ((with_reducible show EvD _ (Expr.Name "_law_thing" _) _ _ _); refine' ev_name 9 ?r ?h; (case h => rfl); (case r => walk_at "dp"))
  | ((with_reducible show EvD _ (Expr.Name "_law_one" _) _ _ _); refine' ev_name 10 ?r ?h; (case h => rfl); (case r => walk_at "dp")))

theorem ok_law (M : MF K mg) (TB : GxR.TabB base mg M.c_key M.p_key) : FnOk P w K mg base CX0 3 M.a_law M.d_law ["_law_script"] (SpR K (Tk M) Rlaw) := by
  refine M.F_law.ok sc_law (fun vs H Q E h => ?_) (fun cdv A outer s H vs Q E hr h => ?_)
  · obtain ⟨G, ds, d, _, _, r, _, ⟨ns, e, _⟩, _⟩ := h
    rw [all_len r, e]; rfl
  obtain ⟨G, ds, d, e0, t0, r, T, ⟨ns, rfl, rfl⟩, q⟩ := h
  obtain ⟨v1, rfl, r1⟩ := all1 r
  refine ⟨_, pss_b, ?_⟩
  have nd := sc_law.nd
  have F := Fr.refl e0 t0
  refine bb_ev 1 nd (Hb := G) (ev_callE (ok_text M) (hr.mono (by decide)) rfl M.m__law_text M.F__law_text.kp M.b__law_text pass0 (ea_cons (by walk_at "nm") ea_nil) ⟨_, _, rfl, "", by decide +kernel, by decide +kernel, rfl⟩ fun _ _ => trivial) F.g2 F.tok (fun v G' H2 f hv => ?_)
  obtain ⟨d, ⟨ns', _, z, hz, hzl, rfl⟩, rz⟩ := hv
  cases dp_str rz
  have F := (F.trans f)
  generalize hG0 : G' = G0 at *
  have r1' : Dp K G0 v1 (dInts ns) := F.g.dp r1
  refine bb_val 2 nd (Hb := G0) (EvD.toInt (i := mixed (ns.getD 3 0) 3) (ev_call (ok_mix M) (hr.mono (by decide)) rfl M.m__law_mixed M.F__law_mixed.kp M.b__law_mixed pass0 (ea_cons (ev_call (ok_cell M) (hr.mono (by decide)) rfl M.m__law_cell_at M.F__law_cell_at.kp M.b__law_cell_at pass0 (ea_cons (by walk_at "nm") (ea_cons ev_int ea_nil)) ⟨_, _, rfl, rfl⟩ fun _ _ => trivial) (ea_cons ev_int ea_nil)) ⟨_, _, rfl, rfl⟩ fun _ _ => trivial)) F.g2 F.tok (fun H3 e1 e2 t3 => ?_)
  have F := F.step e1 e2 t3
  have mb := mixed_lt (ns.getD 3 0) 3
  generalize mixed (ns.getD 3 0) 3 = fst at *
  have i0 := Int.emod_nonneg (fst / 10) (show (4 : Int) ≠ 0 by decide)
  have i1 := Int.emod_lt_of_pos (fst / 10) (show (0 : Int) < 4 by decide)
  obtain ⟨wd, hw1, hw2⟩ := atI_in (xs := ([.str "put", .str "add", .str "once", .str "away"] : List PyData)) i0 (by show _ < ((4 : Nat) : Int); omega)
  obtain ⟨ww, hww, rfl⟩ : ∃ ww, okS ww = true ∧ wd = .str ww := by
    simp only [List.mem_cons, List.not_mem_nil, or_false] at hw2
    rcases hw2 with h | h | h | h <;> subst h <;> exact ⟨_, by decide +kernel, rfl⟩
  refine bb_val 3 nd (Hb := G0) (EvD.toStr (i := ww) (ev_ixL (ev_lst (by walk_at "xa") (by decide)) (by walk_at "xv") hw1)) F.g2 F.tok (fun H4 e3 e4 t4 => ?_)
  have F := F.step e3 e4 t4
  have i2 := Int.emod_nonneg (fst / 40) (show (3 : Int) ≠ 0 by decide)
  have i3 := Int.emod_lt_of_pos (fst / 40) (show (0 : Int) < 3 by decide)
  obtain ⟨big, hbig⟩ : ∃ b : Int, (10 : Int) ^ 40 = b := ⟨_, rfl⟩
  obtain ⟨vd, hv1, hv2⟩ := atI_in (xs := ([.int 0, .int (fst % 100 - 50), .int (big + fst)] : List PyData)) i2 (by show _ < ((3 : Nat) : Int); omega)
  obtain ⟨vv, rfl⟩ : ∃ vv, vd = .int vv := by
    simp only [List.mem_cons, List.not_mem_nil, or_false] at hv2
    rcases hv2 with h | h | h <;> subst h <;> exact ⟨_, rfl⟩
  refine bb_val 4 nd (Hb := G0) (EvD.toInt (i := vv) (ev_ixL (ev_lst (ea_cons ev_int (ea_cons (by walk_at "xv") (ea_cons (ev_add (by rw [← hbig]; exact ev_pow (n := 40) ev_int ev_int (by decide) (by decide)) (by walk_at "nm")) ea_nil))) (by show 3 ≤ 100000; decide)) (by walk_at "xv") hv1)) F.g2 F.tok (fun H5 e5 e6 t5 => ?_)
  have F := F.step e5 e6 t5
  refine bb_ifM (Hb := G0) (fun σ' H' => (∃ vv : Int, σ' = [some v1, some (.str z), some (.int fst), some (.str ww), some (.int vv), none, none, none, none, none, none]) ∧ Fr K G H G0 H') (by walk_at "xt") F.g2 F.tok (fun c H6 e7 e8 t6 => ?_) (fun c H6 e7 e8 t6 => bb_nil ⟨⟨_, rfl⟩, F.step e7 e8 t6⟩) (fun σ' H' p => ?_)
  · exact bb_val 4 nd (Hb := G0) (EvD.toInt (i := 0) ev_int) e7 t6 (fun H7 e9 e10 t7 => bb_nil ⟨⟨_, rfl⟩, (F.step e7 e8 t6).step e9 e10 t7⟩)
  clear F hv1 hv2
  obtain ⟨⟨vv, rfl⟩, F⟩ := p
  refine bb_val 5 nd (Hb := G0) (EvD.toStr (i := z) (by walk_at "nm")) F.g2 F.tok (fun H6 e7 e8 t6 => ?_)
  have F := F.step e7 e8 t6
  refine bb_ifM (Hb := G0) (fun σ' H' => (∃ kk, okS kk = true ∧ σ' = [some v1, some (.str z), some (.int fst), some (.str ww), some (.int vv), some (.str kk), none, none, none, none, none]) ∧ Fr K G H G0 H') (et_w (ew_and (et_not (et_val (ev_call (ok_keydue M) (hr.mono (by decide)) rfl M.m__law_key_due M.F__law_key_due.kp M.b__law_key_due pass0 (ea_cons (by walk_at "nm") ea_nil) ⟨_, 1, rfl, (show good 1 (.str z) = true from hz), rfl⟩ fun _ _ => trivial))) fun _ => ew_and1 (by walk_at "xt"))) F.g2 F.tok (fun c H7 e9 e10 t7 => ?_) (fun c H7 e9 e10 t7 => bb_nil ⟨⟨_, hz, rfl⟩, F.step e9 e10 t7⟩) (fun σ' H' p => ?_)
  · exact bb_val 5 nd (Hb := G0) (EvD.toStr (i := "key") ev_str) e9 t7 (fun H8 e11 e12 t8 => bb_nil ⟨⟨_, by decide +kernel, rfl⟩, (F.step e9 e10 t7).step e11 e12 t8⟩)
  clear F
  obtain ⟨⟨kk, hkk, rfl⟩, F⟩ := p
  refine bb_dat 6 nd (Hb := G0) (d := .tuple [.int (fst % 10), .int (1 + fst / 480 % 9), .str ww, .str kk, .int vv]) (ev_tup (by walk_at "xa") (by show 5 ≤ 100000; decide)) F.g2 F.tok (fun vd G1 H8 f rd => ?_)
  have F := F.trans f
  have r2 := f.g.dp r1'
  have gd : ∃ es : List PyData, ([.int (fst % 10), .int (1 + fst / 480 % 9), .str ww, .str kk, .int vv] : List PyData) = es ∧ es.length = 5 ∧ es.all (good 2) = true := ⟨_, rfl, rfl, by
    simp only [List.all_cons, List.all_nil, Bool.and_true, Bool.and_eq_true]
    exact ⟨rfl, rfl, hww, hkk, rfl⟩⟩
  obtain ⟨es, hes, hl5, hg5⟩ := gd
  rw [hes] at rd
  clear hes
  refine bb_val 7 nd (Hb := G1) (EvD.toInt (i := ns.getD 4 0 % 4) (ev_mod (ev_call (ok_cell M) (hr.mono (by decide)) rfl M.m__law_cell_at M.F__law_cell_at.kp M.b__law_cell_at pass0 (ea_cons (by walk_at "nm") (ea_cons ev_int ea_nil)) ⟨_, _, rfl, rfl⟩ fun _ _ => trivial) ev_int (by decide))) F.g2 F.tok (fun H9 e9 e10 t9 => ?_)
  have F := F.step e9 e10 t9
  generalize ns.getD 4 0 % 4 = ways
  refine bb_ifM (Hb := G1) (fun σ' H' => ∃ Gx vd es, σ' = [some v1, some (.str z), some (.int fst), some (.str ww), some (.int vv), some (.str kk), some vd, some (.int ways), none, none, none] ∧ Fr K G H Gx H' ∧ Dp K Gx v1 (dInts ns) ∧ Dp K Gx vd (.tuple es) ∧ es.length = 5 ∧ es.all (good 2) = true) (by walk_at "xt") F.g2 F.tok (fun c Ha ea eb ta => ?_) (fun c Ha ea eb ta => bb_nil ⟨G1, vd, es, rfl, F.step ea eb ta, r2, rd, hl5, hg5⟩) (fun σ' H' p => ?_)
  · refine bb_ev 6 nd (Hb := G1) (ev_callE (ok_put M) (hr.mono (by decide)) rfl M.m__law_put M.F__law_put.kp M.b__law_put pass0 (ea_cons (by walk_at "nm") (ea_cons (ev_call (ok_mix M) (hr.mono (by decide)) rfl M.m__law_mixed M.F__law_mixed.kp M.b__law_mixed pass0 (ea_cons (ev_call (ok_cell M) (hr.mono (by decide)) rfl M.m__law_cell_at M.F__law_cell_at.kp M.b__law_cell_at pass0 (ea_cons (by walk_at "nm") (ea_cons ev_int ea_nil)) ⟨_, _, rfl, rfl⟩ fun _ _ => trivial) (ea_cons ev_int ea_nil)) ⟨_, _, rfl, rfl⟩ fun _ _ => trivial) (ea_cons (by walk_at "nm") ea_nil))) ⟨.tuple es, es, _, _, rfl, ⟨hl5, hg5, hz⟩, es, hl5, hg5, rfl⟩ fun _ _ => trivial) ea ta (fun v G2 Hc f hv => ?_)
    obtain ⟨d, ⟨_, _, _, _, _, es', hl, hg, rfl⟩, rv⟩ := hv
    exact bb_nil ⟨G2, v, es', rfl, (F.step ea eb ta).trans f, f.g.dp r2, rv, hl, hg⟩
  clear F r2 rd hl5 hg5
  obtain ⟨G2, vd, es, rfl, F, r2, rd, hl5, hg5⟩ := p
  refine bb_ifM (Hb := G2) (fun σ' H' => ∃ Gx vd es, σ' = [some v1, some (.str z), some (.int fst), some (.str ww), some (.int vv), some (.str kk), some vd, some (.int ways), none, none, none] ∧ Fr K G H Gx H' ∧ Dp K Gx v1 (dInts ns) ∧ Dp K Gx vd (.tuple es) ∧ es.length = 5 ∧ es.all (good 2) = true) (by walk_at "xt") F.g2 F.tok (fun c Ha ea eb ta => ?_) (fun c Ha ea eb ta => bb_nil ⟨G2, vd, es, rfl, F.step ea eb ta, r2, rd, hl5, hg5⟩) (fun σ' H' p => ?_)
  · refine bb_ev 6 nd (Hb := G2) (ev_callE (ok_put M) (hr.mono (by decide)) rfl M.m__law_put M.F__law_put.kp M.b__law_put pass0 (ea_cons (by walk_at "nm") (ea_cons (ev_call (ok_mix M) (hr.mono (by decide)) rfl M.m__law_mixed M.F__law_mixed.kp M.b__law_mixed pass0 (ea_cons (ev_call (ok_cell M) (hr.mono (by decide)) rfl M.m__law_cell_at M.F__law_cell_at.kp M.b__law_cell_at pass0 (ea_cons (by walk_at "nm") (ea_cons ev_int ea_nil)) ⟨_, _, rfl, rfl⟩ fun _ _ => trivial) (ea_cons ev_int ea_nil)) ⟨_, _, rfl, rfl⟩ fun _ _ => trivial) (ea_cons (by walk_at "nm") ea_nil))) ⟨.tuple es, es, _, _, rfl, ⟨hl5, hg5, hz⟩, es, hl5, hg5, rfl⟩ fun _ _ => trivial) ea ta (fun v G3 Hc f hv => ?_)
    obtain ⟨d, ⟨_, _, _, _, _, es', hl, hg, rfl⟩, rv⟩ := hv
    exact bb_nil ⟨G3, v, es', rfl, (F.step ea eb ta).trans f, f.g.dp r2, rv, hl, hg⟩
  clear F r2 rd hl5 hg5
  obtain ⟨G3, vd, es, rfl, F, r2, rd, hl5, hg5⟩ := p
  obtain ⟨sh, hsh⟩ := Int.eq_ofNat_of_zero_le (Int.emod_nonneg (ns.getD 7 0) (show (20 : Int) ≠ 0 by decide))
  refine bb_val 8 nd (Hb := G3) (EvD.toInt (i := (sh : Int)) (by rw [← hsh]; exact ev_mod (ev_call (ok_cell M) (hr.mono (by decide)) rfl M.m__law_cell_at M.F__law_cell_at.kp M.b__law_cell_at pass0 (ea_cons (by walk_at "nm") (ea_cons ev_int ea_nil)) ⟨_, _, rfl, rfl⟩ fun _ _ => trivial) ev_int (by decide))) F.g2 F.tok (fun Hd ed ee td => ?_)
  have F := F.step ed ee td
  have gdt : good 3 (.tuple es) = true := by show es.all (good 2) = true; exact hg5
  have git : ∀ x ∈ es, good 3 x = true := fun x hx => good_le (List.all_eq_true.mp hg5 x hx) (by decide)
  refine bb_val 9 nd (Hb := G3) (v := vd) (ev_var 6 rfl) F.g2 F.tok (fun He ef eg te => ?_)
  have F := F.step ef eg te
  refine bb_ifM (Hb := G3) (fun σ' H' => ∃ Gx vt x, σ' = [some v1, some (.str z), some (.int fst), some (.str ww), some (.int vv), some (.str kk), some vd, some (.int ways), some (.int (sh : Int)), some vt, none] ∧ Fr K G H Gx H' ∧ Dp K Gx vd (.tuple es) ∧ Dp K Gx vt x ∧ good 4 x = true) (by walk_at "xt") F.g2 F.tok (fun c Ha ea eb ta => ?_) (fun c Ha ea eb ta => bb_nil ⟨G3, vd, _, rfl, F.step ea eb ta, rd, rd, good_le gdt (by decide)⟩) (fun σ' H' p => ?_)
  · have c' : (sh : Int) < 9 := of_decide_eq_true c
    obtain ⟨it, hi1, hi2⟩ := atI_in (xs := ([.list es, .tuple (es.take 4), .tuple (es ++ [.int 0]), .int 5, .bool true, .tuple [], .none, .str "abcde", .list [.tuple es]] : List PyData)) (i := (sh : Int)) (by omega) (by show _ < ((9 : Nat) : Int); omega)
    have gi : good 4 it = true := by
      simp only [List.mem_cons, List.not_mem_nil, or_false] at hi2
      have g3 : es.all (good 3) = true := List.all_eq_true.mpr git
      rcases hi2 with h | h | h | h | h | h | h | h | h <;> subst h <;> first | rfl | exact g3 | (show (es.take 4).all (good 3) = true; exact List.all_eq_true.mpr fun x hx => git x (List.mem_of_mem_take hx)) | (show List.all (es ++ [PyData.int 0]) (good 3) = true; exact List.all_eq_true.mpr fun x hx => (List.mem_append.mp hx).elim (git x) fun h => by rw [List.mem_singleton.mp h]; rfl) | (show ([.tuple es] : List PyData).all (good 3) = true; simp only [List.all_cons, List.all_nil, Bool.and_true]; exact gdt)
    refine bb_dat 9 nd (Hb := G3) (d := it) (ev_ixL (ev_lst (ea_cons (ek_listT (by walk_at "nm") M.z_list).dat (ea_cons (ev_slTt (n := 4) (by walk_at "nm") ev_int) (ea_cons (ev_catT (by walk_at "nm") (ev_tup (ea_cons ev_int ea_nil) (by decide)) (by rw [hl5]; decide)) (ea_cons ev_int (ea_cons ev_bl (ea_cons (ev_tup ea_nil (by decide)) (ea_cons ev_non (ea_cons ev_str (ea_cons (ev_lst (ea_cons (by walk_at "nm") ea_nil) (by show 1 ≤ 100000; decide)) ea_nil))))))))) (by show 9 ≤ 100000; decide)) (by walk_at "nm") hi1) ea ta (fun v G4 Hc f rv => ?_)
    exact bb_nil ⟨G4, v, it, rfl, (F.step ea eb ta).trans f, f.g.dp rd, rv, gi⟩
  clear F
  obtain ⟨G4, vt, x, rfl, F, rd, rx, gx⟩ := p
  have gz : good 4 (.str z) = true := hz
  obtain ⟨a0, h0, m0⟩ := atI_in (xs := es) (i := 0) (by decide) (by rw [hl5]; decide)
  obtain ⟨a3, h3, m3⟩ := atI_in (xs := es) (i := 3) (by decide) (by rw [hl5]; decide)
  have gs : ∀ y ∈ ([.str z, a0, a3, x] : List PyData), good 4 y = true := fun y hy => by
    simp only [List.mem_cons, List.not_mem_nil, or_false] at hy
    rcases hy with h | h | h | h <;> subst h
    · exact gz
    · exact good_le (git _ m0) (by decide)
    · exact good_le (git _ m3) (by decide)
    · exact gx
  refine bb_forK 10 nd (Hb := G4) (ek_lst (ds := [.str z, a0, a3, x]) (ea_cons (by walk_at "nm") (ea_cons (ev_ixT (by walk_at "nm") ev_int h0) (ea_cons (ev_ixT (by walk_at "nm") ev_int h3) (ea_cons (by walk_at "nm") ea_nil)))) (by show 4 ≤ 100000; decide)) F.g2 F.tok (fun v G5 H5 f hv => ?_) PassesOwn.never
  obtain ⟨ad, xs, rfl, k1, k2⟩ := hv
  have F := F.trans f
  have rx5 := f.g.dp rx
  refine ⟨ad, xs, rfl, .inl (.inl (f.g2.keep _ _ k1 rfl)), fun j σ' H' => (∃ o, σ' = [some v1, some (.str z), some (.int fst), some (.str ww), some (.int vv), some (.str kk), some vd, some (.int ways), some (.int (sh : Int)), some vt, o]) ∧ Fr K G H G5 H', ⟨⟨_, rfl⟩, F⟩, fun j σ' H' hj p => .inl (.inl (p.2.g2.keep _ _ k1 rfl)), fun j y σ' H' hj p => ?_, fun σ' H' p => ?_⟩
  · clear F
    obtain ⟨⟨o, rfl⟩, F⟩ := p
    have hjl := (List.getElem?_eq_some_iff.mp hj).1
    rw [all_len k2] at hjl
    obtain ⟨dy, hdy⟩ : ∃ dy, ([.str z, a0, a3, x] : List PyData)[j]? = some dy := ⟨_, List.getElem?_eq_getElem hjl⟩
    obtain ⟨y', hy1, hy2⟩ := all_get k2 hdy
    rw [hj] at hy1
    cases hy1
    have gy := gs dy (List.mem_of_getElem? hdy)
    refine bb_if0 (Hb := G5) (k := false) (EvT.to (et_not (et_val (ev_call (ok_truth M) (hr.mono (by decide)) rfl M.m__law_truth M.F__law_truth.kp M.b__law_truth pass0 (ea_cons (ev_call (ok_key M TB) (hr.mono (by decide)) rfl M.m_is_key M.F_is_key.kp M.b_is_key pass0 (ea_cons (by walk_at "nm") ea_nil) ⟨_, rfl, good_str gy, rfl⟩ (fun _ e => T.mono (F.g.trans e))) (ea_cons (ev_call (ok_keydue M) (hr.mono (by decide)) rfl M.m__law_key_due M.F__law_key_due.kp M.b__law_key_due pass0 (ea_cons (by walk_at "nm") ea_nil) ⟨_, _, rfl, gy, rfl⟩ fun _ _ => trivial) ea_nil)) ⟨_, _, rfl, rfl⟩ fun _ _ => trivial))) (by simp)) F.g2 F.tok (fun c => nomatch c) (fun c H6 e5 e6 t6 => ?_)
    exact bb_nil ⟨⟨_, rfl⟩, F.step e5 e6 t6⟩
  · clear F
    obtain ⟨⟨o, rfl⟩, F⟩ := p
    refine bb_ret (Hb := G5) (d := .bool true) (EvD.to (ev_and (ev_call (ok_truth M) (hr.mono (by decide)) rfl M.m__law_truth M.F__law_truth.kp M.b__law_truth pass0 (ea_cons (ev_call (ok_deed M TB) (hr.mono (by decide)) rfl M.m_is_deed M.F_is_deed.kp M.b_is_deed pass0 (ea_cons (by walk_at "nm") ea_nil) ⟨_, _, rfl, gx, by decide, rfl⟩ (fun _ e => T.mono (F.g.trans e))) (ea_cons (ev_call (ok_deeddue M) (hr.mono (by decide)) rfl M.m__law_deed_due M.F__law_deed_due.kp M.b__law_deed_due pass0 (ea_cons (by walk_at "nm") ea_nil) ⟨_, _, rfl, gx, rfl⟩ fun _ _ => trivial) ea_nil)) ⟨_, _, rfl, rfl⟩ fun _ _ => trivial) fun _ => ev_one (ev_isB (ev_call (ok_deed M TB) (hr.mono (by decide)) rfl M.m_is_deed M.F_is_deed.kp M.b_is_deed pass0 (ea_cons (by walk_at "nm") ea_nil) ⟨_, _, rfl, gz, by decide, rfl⟩ (fun _ e => T.mono (F.g.trans e))) ev_bl)) (by show PyData.bool ((deedF x == deedF x) && decide (deedF (.str z) = false)) = .bool true; simp [deedF])) F.g2 F.tok (fun v G6 H6 f r => q v G6 H6 (F.trans f) r)
end
end Pf

namespace Pf
open PySem L2 C
/-! ### words of this text: «dp» closes what data is, «xv» walks an expression, «xt» a test -/
local macro_rules | `(tactic| walk_at "dp5") => `(tactic| assumption)
local macro_rules | `(tactic| walk_at "dp4") => `(tactic| first
  | assumption
  | (refine Ext.dp (Fr.g (by assumption)) ?_; walk_at "dp5")
  | (refine Ext.dp (by assumption) ?_; walk_at "dp5"))
local macro_rules | `(tactic| walk_at "dp3") => `(tactic| first
  | assumption
  | (refine Ext.dp (Fr.g (by assumption)) ?_; walk_at "dp4")
  | (refine Ext.dp (by assumption) ?_; walk_at "dp4"))
local macro_rules | `(tactic| walk_at "dp2") => `(tactic| first
  | assumption
  | (refine Ext.dp (Fr.g (by assumption)) ?_; walk_at "dp3")
  | (refine Ext.dp (by assumption) ?_; walk_at "dp3"))
local macro_rules | `(tactic| walk_at "dp1") => `(tactic| first
  | assumption
  | (refine Ext.dp (Fr.g (by assumption)) ?_; walk_at "dp2")
  | (refine Ext.dp (by assumption) ?_; walk_at "dp2"))
local macro_rules | `(tactic| walk_at "dp") => `(tactic| first
  | assumption
  | exact Dp.int _ | exact Dp.str _ | exact Dp.bl _ | exact Dp.non
  | (refine Ext.dp (Fr.g (by assumption)) ?_; walk_at "dp1")
  | (refine Ext.dp (by assumption) ?_; walk_at "dp1"))
local macro_rules | `(tactic| walk_at "side") => `(tactic| first | assumption | decide | omega | (simp only [List.length_cons, List.length_nil]; omega) | (simp only [Int.natAbs]; omega))
local macro_rules | `(tactic| walk_at "xv") => `(tactic| first
  | ((with_reducible show EvD _ (Expr.Name _ _) _ _ _); walk_at "nm")
  | ((with_reducible show EvD _ (Expr.Constant _ _ _) _ _ _); first | exact ev_int | exact ev_str | exact ev_bl | exact ev_non)
  | ((with_reducible show EvD _ (Expr.BinOp _ .Add _ _) _ _ _); first | (apply ev_add; walk_at "xv"; walk_at "xv") | (apply ev_catS; walk_at "xv"; walk_at "xv"; walk_at "side"))
  | ((with_reducible show EvD _ (Expr.BinOp _ .Sub _ _) _ _ _); apply ev_sub; walk_at "xv"; walk_at "xv")
  | ((with_reducible show EvD _ (Expr.BinOp _ .Mod _ _) _ _ _); apply ev_mod; walk_at "xv"; walk_at "xv"; walk_at "side")
  | ((with_reducible show EvD _ (Expr.BinOp _ .FloorDiv _ _) _ _ _); apply ev_div; walk_at "xv"; walk_at "xv"; walk_at "side")
  | ((with_reducible show EvD _ (Expr.BinOp _ .Mult _ _) _ _ _); first | (apply ev_mulR; walk_at "xv"; walk_at "xv"; walk_at "side") | (apply ev_mulL; walk_at "xv"; walk_at "xv"; walk_at "side"))
  | ((with_reducible show EvD _ (Expr.Tuple _ _ _) _ _ _); apply ev_tup; walk_at "xa"; walk_at "side")
  | ((with_reducible show EvD _ (Expr.List _ _) _ _ _); apply ev_lst; walk_at "xa"; walk_at "side")
  | walk_at "xown")
local macro_rules | `(tactic| walk_at "xa") => `(tactic| first | exact ea_nil | (refine' ea_cons ?xa ?xb; (case xa => walk_at "xv"); (case xb => walk_at "xa")))
local macro_rules | `(tactic| walk_at "xt") => `(tactic| first
  | ((with_reducible show EvT _ (Expr.Compare _ [.Lt] _ _) _ _ _); refine' et_lt ?xa ?xb; (case xa => walk_at "xv"); (case xb => walk_at "xv"))
  | ((with_reducible show EvT _ (Expr.Compare _ [.LtE] _ _) _ _ _); refine' et_le ?xa ?xb; (case xa => walk_at "xv"); (case xb => walk_at "xv"))
  | ((with_reducible show EvT _ (Expr.Compare _ [.Gt] _ _) _ _ _); refine' et_gt ?xa ?xb; (case xa => walk_at "xv"); (case xb => walk_at "xv"))
  | ((with_reducible show EvT _ (Expr.Compare _ [.GtE] _ _) _ _ _); refine' et_ge ?xa ?xb; (case xa => walk_at "xv"); (case xb => walk_at "xv"))
  | ((with_reducible show EvT _ (Expr.Compare _ [.Eq] _ _) _ _ _); first | (refine' et_eqI ?xa ?xb; (case xa => walk_at "xv"); (case xb => walk_at "xv")) | (refine' et_eqS ?xa ?xb; (case xa => walk_at "xv"); (case xb => walk_at "xv")))
  | ((with_reducible show EvT _ (Expr.Compare _ [.NotEq] _ _) _ _ _); first | (refine' et_neI ?xa ?xb; (case xa => walk_at "xv"); (case xb => walk_at "xv")) | (refine' et_neS ?xa ?xb; (case xa => walk_at "xv"); (case xb => walk_at "xv")))
  | ((with_reducible show EvT _ (Expr.Compare _ [.Is] _ _) _ _ _); refine' et_isN ?xa ?xb; (case xa => walk_at "xv"); (case xb => walk_at "xv"))
  | ((with_reducible show EvT _ (Expr.Compare _ [.IsNot] _ _) _ _ _); refine' et_notN ?xa ?xb; (case xa => walk_at "xv"); (case xb => walk_at "xv"))
  | ((with_reducible show EvT _ (Expr.UnaryOp .Not _ _) _ _ _); apply et_not; walk_at "xt"))
section
variable {K : PySem.W.Frag} {mg : Str → Option Value}
theorem law_at {l : PySem.W.OpenLaw} {w : World} {fa : Addr} {h : Heap} (M : MF K mg) (kin : K.In h) (G : h.Ns mainGlobals mg) (hfa : mg "law" = some (.ref fa))
    (tab : ∀ c P, PySem.W.tabIn K "is_key" = some (c, P) → PySem.W.CodeHd h c P ∧ h.get? P = some { cls := .none, data := .fields #[] }) : LamX.LawAtS l w K CX0 3 63 "_law_script" mg fa h := by
  have e := M.m_law
  rw [hfa] at e
  cases e
  refine ⟨M.d_law, [(M.c_key, M.p_key)], SpR K (Tk M) Rlaw, fun p hp => ?_, fun p hp => ?_, fun p hp => ?_, fun s u => ?_, fun H a ns _ _ hT hS => ?_, fun base _ _ TB => ok_law M (tabB_of (TB _ (List.mem_singleton.mpr rfl)))⟩
  · cases List.mem_singleton.mp hp
    exact (tab _ _ M.tk_key).2
  · cases List.mem_singleton.mp hp
    exact M.n_key
  · cases List.mem_singleton.mp hp
    exact (tab _ _ M.tk_key).1
  · exact M.s_law s u
  · have t0 := hT _ (List.mem_singleton.mpr rfl)
    refine ⟨H, [dInts ns], .bool true, Ext.refl H, fun c P ps e z => ?_, .cons (.lst hS (ints_dp ns)) .nil, ⟨_, t0⟩, ⟨ns, rfl, rfl⟩, fun v G' H2 _ r => dp_bl r⟩
    rw [M.tk_key] at e
    cases e
    rw [t0] at z
    cases z
    exact trivial
end
end Pf
open PySem PySem.W PyProof.Rows
set_option maxRecDepth 100000 in
set_option maxHeartbeats 0 in
theorem PySem.Challenge.cw_chainkeep_k01_deeds_known_holds : PySem.Challenge.rw_chainkeep_k01_deeds_known.Holds := by
  w_on; o_law; k_head; (case hw => w_witness2)
  k_fill
  refine C.walk_tab (l := PySem.Challenge.rw_chainkeep_k01_deeds_known) (n := 63) (k := 3) (x := "_law_script") (key := "is_key") (CX := fun _ => L2.CX0) rfl (by decide) rfl ⟨rfl, by decide, by decide⟩ ?hk (fun w h Y => PySem.W.kIn_of Y) ?F (fun _ _ _ _ _ z => z)
  case hk => exact ⟨_, rfl⟩
  case F =>
    intro w mg fa h KX G hmg tab
    refine Pf.law_at ?theMF KX G hmg tab
    refine' Pf.all_mk KX G ?a_is_number ?l_is_number ?c_is_number ?k_is_number ?a_is_key ?l_is_key ?c_is_key ?k_is_key ?lc_key ?v_key ?n_key ?a_is_deed ?l_is_deed ?c_is_deed ?k_is_deed ?a__law_cell_at ?l__law_cell_at ?c__law_cell_at ?k__law_cell_at ?a__law_mixed ?l__law_mixed ?c__law_mixed ?k__law_mixed ?a__law_whole ?l__law_whole ?c__law_whole ?k__law_whole ?a__law_text ?l__law_text ?c__law_text ?k__law_text ?a__law_put ?l__law_put ?c__law_put ?k__law_put ?a__law_key_due ?l__law_key_due ?c__law_key_due ?k__law_key_due ?a__law_deed_due ?l__law_deed_due ?c__law_deed_due ?k__law_deed_due ?a__law_truth ?l__law_truth ?c__law_truth ?k__law_truth ?a_law ?l_law ?c_law ?k_law ?mc_WORDS ?lc_WORDS ?z_isinstance ?z_int ?z_bool ?z_str ?z_len ?z_all ?z_tuple ?z_range ?z_list
    (case a_is_number => k_is)
    (case l_is_number => k_is)
    (case c_is_number => k_is)
    (case k_is_number => k_is)
    (case a_is_key => k_is)
    (case l_is_key => k_is)
    (case c_is_key => k_is)
    (case k_is_key => k_is)
    (case lc_key => k_is)
    (case v_key => rfl)
    (case n_key => kernel_rfl)
    (case a_is_deed => k_is)
    (case l_is_deed => k_is)
    (case c_is_deed => k_is)
    (case k_is_deed => k_is)
    (case a__law_cell_at => k_is)
    (case l__law_cell_at => k_is)
    (case c__law_cell_at => k_is)
    (case k__law_cell_at => k_is)
    (case a__law_mixed => k_is)
    (case l__law_mixed => k_is)
    (case c__law_mixed => k_is)
    (case k__law_mixed => k_is)
    (case a__law_whole => k_is)
    (case l__law_whole => k_is)
    (case c__law_whole => k_is)
    (case k__law_whole => k_is)
    (case a__law_text => k_is)
    (case l__law_text => k_is)
    (case c__law_text => k_is)
    (case k__law_text => k_is)
    (case a__law_put => k_is)
    (case l__law_put => k_is)
    (case c__law_put => k_is)
    (case k__law_put => k_is)
    (case a__law_key_due => k_is)
    (case l__law_key_due => k_is)
    (case c__law_key_due => k_is)
    (case k__law_key_due => k_is)
    (case a__law_deed_due => k_is)
    (case l__law_deed_due => k_is)
    (case c__law_deed_due => k_is)
    (case k__law_deed_due => k_is)
    (case a__law_truth => k_is)
    (case l__law_truth => k_is)
    (case c__law_truth => k_is)
    (case k__law_truth => k_is)
    (case a_law => k_is)
    (case l_law => k_is)
    (case c_law => k_is)
    (case k_law => k_is)
    (case mc_WORDS => k_is)
    (case lc_WORDS => k_is)
    (case z_isinstance => k_is)
    (case z_int => k_is)
    (case z_bool => k_is)
    (case z_str => k_is)
    (case z_len => k_is)
    (case z_all => k_is)
    (case z_tuple => k_is)
    (case z_range => k_is)
    (case z_list => k_is)
